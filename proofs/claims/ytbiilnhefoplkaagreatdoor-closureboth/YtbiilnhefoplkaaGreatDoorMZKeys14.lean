/-
  What is proved here: what closure.rising answers of a map of patches, and of a set of texts: its keys, rising. Condition: the map lies in memory and has few keys.
-/
import Derived.Test.YtbiilnhefoplkaaGreatDoorMLay8
import Derived.Test.YtbiilnhefoplkaaGreatDoorM6ZStrs9
namespace Go.Proofs.YtbiilnhefoplkaaGreatDoor
open Go.RowKit Go.Maps Go.WideMaps Go.Sort Go.Shelf
set_option maxRecDepth 100000

theorem strKeys_toM {β : Type} (mk : β → Value) (T : List (Kv β)) : strKeys (toM mk T) = T.map (·.1) := by
  unfold toM strKeys
  simp only [List.map_map]
  rfl

theorem sorts_in14 (m : Nat) : AnyZ.SortsIn Tryz.prog Tryz.sorted39_ren Fence.wide m :=
  ⟨fun blk off cap ss W hH hblk hsz => callsIn_wide.2 (AnyM.slices_Sort_string Tryz.sort53 blk off cap ss W hH hblk hsz),
   fun p cap W => callsIn_wide.2 (AnyM.slices_Sort_string_none Tryz.sort53 p cap W)⟩

theorem keysP_any (mb : Option Nat) (W : World) : Calls Tryz.prog 40 #[.map mb] W fun e w' => e = .returned (.func (.func 54) #[] #[.pointer (some ⟨W.heap.size, 0, none⟩)]) ∧ w' = W.alloc (.cells #[.map mb] 43) :=
  callsIn_wide.1 (AnyZ.keys_in Tryz.keys40 Fence.wide 5 trivial rfl mb W)

theorem keysU_any (mb : Option Nat) (W : World) : Calls Tryz.prog 60 #[.map mb] W fun e w' => e = .returned (.func (.func 70) #[] #[.pointer (some ⟨W.heap.size, 0, none⟩)]) ∧ w' = W.alloc (.cells #[.map mb] 70) :=
  callsIn_wide.1 (AnyZ.keys_in Tryz.keys60 Fence.wide 5 trivial rfl mb W)

set_option maxHeartbeats 1000000 in
theorem sortedP_any {H : Type} (b nn : Nat) (D0 : DataW H) (R : Value → Option (DataW H × List MemPlace)) (w : World) (hown : w.ownsMap Tryz.prog 9 R b nn D0) (hmax : Maps.size D0 ≤ maxLen) (hbytes : Maps.size D0 * 16 ≤ 140737488355328) :
    Calls Tryz.prog 39 #[.func (.func 54) #[] #[.pointer (some ⟨w.heap.size, 0, none⟩)]] (w.alloc (.cells #[.map (some b)] 43)) fun e w' => ∃ (v : Value) (ss : List (List UInt8)), e = .returned v ∧ ss.Perm (strKeys D0) ∧
      w'.ownsRow 0 9 1 v ss.length ((ss.mergeSort (fun x y => decide (x ≤ y))).map encStr) ∧ Below (w.alloc (.cells #[.map (some b)] 43)).heap.size (w.alloc (.cells #[.map (some b)] 43)) w' := by
  have hbl := hown.lt
  have hseq : SeqGives Fence.wide 2 Tryz.prog 54 #[.pointer (some ⟨w.heap.size, 0, none⟩)] encStr (fun ss => ss.Perm (strKeys D0)) (Maps.size D0) (w.alloc (.cells #[.map (some b)] 43)) :=
    AnyZ.keys_gives (ρ := Tryz.keys40_ren) { Tryz.keys40 with } Fence.wide _ trivial rfl (by omega) w.heap.size b nn D0 _ (by simp) (by simp) (by
      obtain ⟨es, clock, hb, Ft, hs, hD⟩ := hown
      exact ⟨es, clock, (Below.heap_alloc _ _ b hbl).trans hb, Ft, hs, hD⟩)
  have cS := callsIn_wide.1 (AnyZ.sorted_in Tryz.sorted39 Fence.wide 5 trivial trivial trivial trivial rfl (by omega) (sorts_in14 _) (enters_of Tryz.func53 (by kernel_rfl) rfl) 54 #[.pointer (some ⟨w.heap.size, 0, none⟩)] trivial (enters_of Tryz.func54 (by kernel_rfl) rfl) _ _ hmax hbytes _ hseq)
  refine Calls.mono cS fun e w' h => ?_
  obtain ⟨v, ss, h1, h2, h3, h4, h5⟩ := h
  exact ⟨v, ss, h1, h2, ownsRow_base_a h3 (Nat.zero_le _), h5⟩

set_option maxHeartbeats 1000000 in
theorem sortedU_any {H : Type} (b nn : Nat) (D0 : DataW H) (R : Value → Option (DataW H × List MemPlace)) (w : World) (hown : w.ownsMap Tryz.prog 9 R b nn D0) (hmax : Maps.size D0 ≤ maxLen) (hbytes : Maps.size D0 * 16 ≤ 140737488355328) :
    Calls Tryz.prog 39 #[.func (.func 70) #[] #[.pointer (some ⟨w.heap.size, 0, none⟩)]] (w.alloc (.cells #[.map (some b)] 70)) fun e w' => ∃ (v : Value) (ss : List (List UInt8)), e = .returned v ∧ ss.Perm (strKeys D0) ∧
      w'.ownsRow 0 9 1 v ss.length ((ss.mergeSort (fun x y => decide (x ≤ y))).map encStr) ∧ Below (w.alloc (.cells #[.map (some b)] 70)).heap.size (w.alloc (.cells #[.map (some b)] 70)) w' := by
  have hbl := hown.lt
  have hseq : SeqGives Fence.wide 2 Tryz.prog 70 #[.pointer (some ⟨w.heap.size, 0, none⟩)] encStr (fun ss => ss.Perm (strKeys D0)) (Maps.size D0) (w.alloc (.cells #[.map (some b)] 70)) :=
    AnyZ.keys_gives (ρ := Tryz.keys60_ren) { Tryz.keys60 with } Fence.wide _ trivial rfl (by omega) w.heap.size b nn D0 _ (by simp) (by simp) (by
      obtain ⟨es, clock, hb, Ft, hs, hD⟩ := hown
      exact ⟨es, clock, (Below.heap_alloc _ _ b hbl).trans hb, Ft, hs, hD⟩)
  have cS := callsIn_wide.1 (AnyZ.sorted_in Tryz.sorted39 Fence.wide 5 trivial trivial trivial trivial rfl (by omega) (sorts_in14 _) (enters_of Tryz.func53 (by kernel_rfl) rfl) 70 #[.pointer (some ⟨w.heap.size, 0, none⟩)] trivial (enters_of Tryz.func70 (by kernel_rfl) rfl) _ _ hmax hbytes _ hseq)
  refine Calls.mono cS fun e w' h => ?_
  obtain ⟨v, ss, h1, h2, h3, h4, h5⟩ := h
  exact ⟨v, ss, h1, h2, ownsRow_base_a h3 (Nat.zero_le _), h5⟩

theorem keys_rise {β : Type} {T : List (Kv β)} {ss : List (List UInt8)} (hS : RiseM T) (h : ss.Perm (T.map (·.1))) : (ss.mergeSort (fun x y => decide (x ≤ y))).map encStr = ((T.map (·.1)).map mkB).map Value.string := by
  have h1 : ss.mergeSort (fun x y => decide (x ≤ y)) = (T.map (·.1)).mergeSort (fun x y => decide (x ≤ y)) := mergeSort_of_perm h
  rw [h1, List.mergeSort_of_pairwise]
  · rw [List.map_map, List.map_map, List.map_map]
    rfl
  · unfold RiseM at hS
    exact hS.imp (fun h => by
      rw [decide_eq_true_eq]
      exact List.le_of_lt h)

/-- What rising hands back of the keys K. -/
def RisePost (w : World) (K : List B13) (e : Ending) (w' : World) : Prop := ∃ v, e = .returned v ∧ StrsAt w' v (K.map mkB) ∧ Fr None' w w'

set_option maxHeartbeats 4000000 in
theorem risingP_any {β : Type} (mk : β → Value) (b n : Nat) (T : List (Kv β)) (w : World) (h : MAt mk w b n T) (hn : T.length ≤ 1000000) :
    Calls Tryz.prog 26 #[.map (some b)] w fun e w' => RisePost w (T.map (·.1)) e w' := by
  have HS := toHid8 h.rise
  have cS := sortedP_any b n _ _ w h (by rw [size_toM]; unfold maxLen; omega) (by rw [size_toM]; omega)
  rw [strKeys_toM] at cS
  have q1 := keysP_any (some b) w
  clear h
  go_enter Tryz.func26, Tryz.ntmps26
  go_wp2_with fail
  with_reducible refine q1.mono ?_
  rintro e w2 ⟨rfl, hw2⟩
  subst hw2
  go_wp2_with fail
  refine cS.mono ?_
  rintro e w3 ⟨vk, ss, rfl, hperm, hrow, hbel⟩
  have hss : ss.length = T.length := by rw [hperm.length_eq, List.length_map]
  rw [keys_rise HS.out hperm, hss] at hrow
  have hst : StrsAt w3 vk ((T.map (·.1)).map mkB) := own_strs (by rw [List.length_map, List.length_map]; exact hrow)
  have F3 : Fr None' w w3 := (Fr.alloc None' w _).then7 (ofBelow hbel)
  have HF3 := toHid8 F3
  have hst' := hst
  obtain ⟨ka, kc, rfl, -, -, -⟩ := hst
  have HSt := toHid8 (show StrsAt w3 (.slice ka T.length kc) ((T.map (·.1)).map mkB) from by simpa only [List.length_map] using hst')
  clear cS q1 hrow hperm hss hbel F3 hst'
  go_wp2_with fail
  go_ret
  exact ⟨_, rfl, HSt.out, HF3.out⟩

set_option maxHeartbeats 4000000 in
theorem risingU_any {β : Type} (mk : β → Value) (b n : Nat) (T : List (Kv β)) (w : World) (h : MAt mk w b n T) (hn : T.length ≤ 1000000) :
    Calls Tryz.prog 47 #[.map (some b)] w fun e w' => RisePost w (T.map (·.1)) e w' := by
  have HS := toHid8 h.rise
  have cS := sortedU_any b n _ _ w h (by rw [size_toM]; unfold maxLen; omega) (by rw [size_toM]; omega)
  rw [strKeys_toM] at cS
  have q1 := keysU_any (some b) w
  clear h
  go_enter Tryz.func47, Tryz.ntmps47
  go_wp2_with fail
  with_reducible refine q1.mono ?_
  rintro e w2 ⟨rfl, hw2⟩
  subst hw2
  go_wp2_with fail
  refine cS.mono ?_
  rintro e w3 ⟨vk, ss, rfl, hperm, hrow, hbel⟩
  have hss : ss.length = T.length := by rw [hperm.length_eq, List.length_map]
  rw [keys_rise HS.out hperm, hss] at hrow
  have hst : StrsAt w3 vk ((T.map (·.1)).map mkB) := own_strs (by rw [List.length_map, List.length_map]; exact hrow)
  have F3 : Fr None' w w3 := (Fr.alloc None' w _).then7 (ofBelow hbel)
  have HF3 := toHid8 F3
  have hst' := hst
  obtain ⟨ka, kc, rfl, -, -, -⟩ := hst
  have HSt := toHid8 (show StrsAt w3 (.slice ka T.length kc) ((T.map (·.1)).map mkB) from by simpa only [List.length_map] using hst')
  clear cS q1 hrow hperm hss hbel F3 hst'
  go_wp2_with fail
  go_ret
  exact ⟨_, rfl, HSt.out, HF3.out⟩

end Go.Proofs.YtbiilnhefoplkaaGreatDoor
