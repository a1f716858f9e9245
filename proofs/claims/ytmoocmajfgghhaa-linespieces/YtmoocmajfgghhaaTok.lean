/-
  What is proved here: what Tokens answers. The text is shorter than 1000000000 bytes.
-/
import Derived.Test.YtmoocmajfgghhaaIter
namespace Go.Proofs.Ytmoocmajfgghhaa
open Go.RowKit Go.Shelf
set_option maxRecDepth 100000
attribute [local go_sem] Oper.semAt_some

theorem enc_is (x : ByteArray) : encStr x.data.toList = .string x := by show Value.string _ = _; rw [← str_of (s := x) rfl]

theorem pieces_gives (p : ByteArray) (b n : Nat) (w : World) (hp : (p.size : Int) < 1000000000) (hb : w.cell? ⟨b, 0, none⟩ = some (.string p)) :
    SeqGives Fence.wide n Try.prog 45 #[.pointer (some ⟨b, 0, none⟩)] encStr (fun xs => xs = pieces p.data.toList) 1000000000 w := fun l J W hbel hJ hY h0 => by
  have hlt : b < w.heap.size := cell_lt hb
  have habide : ∀ {J' : List ByteArray → World → Prop}, (∀ s A B, J' s A → A.grownBy B none → J' s B) → Abide None' J' := fun h s A B hs f =>
    h s A B hs ⟨f.os, f.tape, f.output, f.size, fun k hk _ => f.block k hk id⟩
  refine (pieces_seq p b n hp l (fun pre W => J (bs pre) W) (fun _ _ => False) W ((hbel.cell (p := ⟨b, 0, none⟩) hlt).trans hb)
    (habide fun s A B hs hg => hJ _ _ _ none hs hg (fun r e => by cases e)) (fun _ _ _ h _ => h.elim) (fun pre x W1 h hsp => ?_) h0).mono ?_
  · obtain ⟨t, ht⟩ := hsp
    have hlen := congrArg List.length ht
    have hc := pieces_count_le p.data.toList
    rw [List.length_append, bs_length, List.length_append, List.length_singleton] at hlen
    rw [len_eq] at hc
    obtain ⟨fn, tmps, assign, body, h1, h2⟩ := hY (bs pre) x.data.toList W1 h (by rw [bs_length]; omega)
    rw [enc_is] at h1
    refine ⟨fn, tmps, assign, body, h1, h2.mono ?_⟩
    rintro e W' ⟨rfl, hj, _⟩
    exact .inl ⟨rfl, by rw [bs_append]; exact hj, trivial⟩
  · rintro e W' ⟨hv, (⟨xs, hS, hj⟩ | ⟨_, _, h⟩)⟩
    · exact ⟨hv, _, hS, hj⟩
    · exact h.elim

set_option maxHeartbeats 2000000 in
theorem tokens_any (s : ByteArray) (w : World) (hs : (s.size : Int) < 1000000000) : Calls Try.prog 18 #[.string s] w fun e w' => ∃ v, e = .returned v ∧ Made w (pieces s.data.toList) v w' := by
  have cP := pieces_any s w
  have hb : (w.alloc (.cells #[.string s] 9)).cell? ⟨w.heap.size, 0, none⟩ = some (.string s) := by simp
  have cC : Calls Try.prog 32 #[.func (.func 45) #[] #[.pointer (some ⟨w.heap.size, 0, none⟩)]] (w.alloc (.cells #[.string s] 9)) _ := callsIn_wide.1 (AnyZ.collect_in Try.coll32 Fence.wide 3 trivial trivial rfl (by omega) 45 _ trivial (enters_of Try.func45 (by kernel_rfl) rfl) (fun xs => xs = pieces s.data.toList) 1000000000 (by unfold maxLen; omega) (by omega) _ (pieces_gives s w.heap.size 1 _ hs hb))
  clear hb
  go_enter Try.func18, Try.ntmps18
  go_wp2_with first
    | (go_at_call 33; refine cP.mono ?_; rintro e w' ⟨rfl, rfl⟩)
    | (go_at_call 32; refine cC.mono ?_; rintro e w' ⟨v, ss, rfl, hS, hrow, _, hbel⟩)
  go_ret
  refine ⟨v, rfl, ?_⟩
  have hrow' : OwnS (w.alloc (.cells #[.string s] 9)) w' v (ss.map fun x => ⟨x.toArray⟩) := by
    unfold OwnS
    rw [List.length_map, List.map_map]
    exact hrow
  have hmade := hrow'.made (t := pieces s.data.toList) (by rw [← hS, bs, List.map_map]; exact List.map_id'' (fun _ => rfl) _) (Grew.of hbel)
  exact ⟨hmade.is, (Fr.alloc None' w _).then (Grew.of hbel)⟩

end Go.Proofs.Ytmoocmajfgghhaa
