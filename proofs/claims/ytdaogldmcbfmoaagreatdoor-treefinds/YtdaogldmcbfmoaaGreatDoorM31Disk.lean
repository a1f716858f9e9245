/-
  What is proved here: the contracts that the statement stands on: Disk, Small, Used, Clone, Name, Settle, Do. Conditions: as each theorem names them.
-/
import Derived.Test.YtdaogldmcbfmoaaGreatDoorMBase
import Derived.Test.YtdaogldmcbfmoaaGreatDoorRows
namespace Go.Proofs.YtdaogldmcbfmoaaGreatDoor
open Go.RowKit Go.Maps

/-- A change, as plain data: a name is written, renamed or removed. -/
abbrev Ch : Type := Sum Tri (Sum (List UInt8 × List UInt8) (List UInt8))
abbrev Ch.wr (t : Tri) : Ch := Sum.inl t
abbrev Ch.mv (a b : List UInt8) : Ch := Sum.inr (Sum.inl (a, b))
abbrev Ch.rm (k : List UInt8) : Ch := Sum.inr (Sum.inr k)

theorem Ch.three (c : Ch) : (∃ t, c = Ch.wr t) ∨ (∃ a b, c = Ch.mv a b) ∨ (∃ k, c = Ch.rm k) := by
  rcases c with t | ⟨a, b⟩ | k
  · exact Or.inl ⟨t, rfl⟩
  · exact Or.inr (Or.inl ⟨a, b, rfl⟩)
  · exact Or.inr (Or.inr ⟨k, rfl⟩)

def Ch.app : Ch → List Tri → List Tri
  | Sum.inl t, T => put T t
  | Sum.inr (Sum.inl (a, b)), T => match get T a with
    | none => T
    | some t => put (del T a) { t with k := b }
  | Sum.inr (Sum.inr k), T => del T k

/-- What a disk is, as plain data. -/
structure St where
  room : Int
  n : Nat
  F : List Tri
  Y : List Tri
  ch : List Ch
  acts : Int
  fuse : Int
  down : Bool

def u8s (b : List UInt8) : List Value := b.map (fun c => .int .u8 c.toNat)

/-- The slice v holds the bytes b, and is a row of its own. -/
def Data (w : World) (v : Value) (b : List UInt8) : Prop := w.ownsRow 0 5 1 v b.length (u8s b)

def AllData (w : World) (T : List Tri) : Prop := ∀ t ∈ T, Data w t.v t.b

def Named (w : World) (b : Nat) (k : List UInt8) : Prop := ∃ s : ByteArray, w.heap[b]? = some (.cells #[.string s] 9) ∧ s.data.toList = k ∧ s.size ≤ maxLen

/-- The function value f does the change c. -/
def Clo (w : World) (f : Value) : Ch → Prop
  | Sum.inl t => ∃ b1 b2, f = .func (.func 114) #[] #[.pointer (some ⟨b1, 0, none⟩), .pointer (some ⟨b2, 0, none⟩)] ∧ w.heap[b1]? = some (.cells #[t.v] 57) ∧ Named w b2 t.k ∧ Data w t.v t.b
  | Sum.inr (Sum.inl _) => False
  | Sum.inr (Sum.inr _) => False

def Clos (w : World) : List Value → List Ch → Prop
  | [], [] => True
  | f :: fs, c :: cs => Clo w f c ∧ Clos w fs cs
  | _, _ => False

def cellsOf (S : St) (bf bs : Nat) (ca : Value) : Array Value := #[.int .i64 S.room, .map (some bf), .map (some bs), ca, .int .i64 S.acts, .int .i64 S.fuse, .bool S.down]

/-- Block p of w is the disk S; its files lie in the map bf, those that were synced in bs, its changes in ca. -/
structure DiskAt (w : World) (p bf bs : Nat) (ca : Value) (S : St) : Prop where
  own : w.heap[p]? = some (.cells (cellsOf S bf bs ca) 65)
  files : w.ownsMap Tryz.prog 9 heldR bf S.n (toD S.F)
  synced : w.ownsMap Tryz.prog 9 heldR bs S.n (toD S.Y)
  ne : bf ≠ bs
  changes : ∃ fs, w.ownsRow 0 183 1 ca S.ch.length fs ∧ Clos w fs S.ch
  dataF : AllData w S.F
  dataY : AllData w S.Y

/-- The blocks of a disk that turn. -/
def Mut (p bf : Nat) (ca : Value) (k : Nat) : Prop := k = p ∨ k = bf ∨ ca.ownBlock = some k

def Disk (w : World) (p : Nat) (M : Nat → Prop) (S : St) : Prop := ∃ bf bs ca, DiskAt w p bf bs ca S ∧ M = Mut p bf ca

/-- A call that has made the disk be S'. -/
def Stepped (M : Nat → Prop) (w : World) (p : Nat) (S' : St) (w' : World) : Prop := ∃ M', Disk w' p M' S' ∧ Fr M w w' ∧ ∀ k, M' k → M k ∨ w.heap.size ≤ k

theorem Clos.length {w : World} : ∀ {fs : List Value} {cs : List Ch}, Clos w fs cs → fs.length = cs.length
  | [], [], _ => rfl
  | _ :: _, _ :: _, h => by simp [Clos.length h.2]
  | [], _ :: _, h => h.elim
  | _ :: _, [], h => h.elim

theorem Clos.get {w : World} : ∀ {fs : List Value} {cs : List Ch}, Clos w fs cs → ∀ {i : Nat} {f : Value}, fs[i]? = some f → ∃ c, cs[i]? = some c ∧ Clo w f c
  | [], [], _, i, f, h => by simp at h
  | g :: fs, c :: cs, h, 0, f, hf => by simp at hf; subst hf; exact ⟨c, rfl, h.1⟩
  | g :: fs, c :: cs, h, i + 1, f, hf => by simpa using Clos.get h.2 (by simpa using hf)
  | [], _ :: _, h, _, _, _ => h.elim
  | _ :: _, [], h, _, _, _ => h.elim

theorem Clos.snoc {w : World} : ∀ {fs : List Value} {cs : List Ch}, Clos w fs cs → ∀ {f : Value} {c : Ch}, Clo w f c → Clos w (fs ++ [f]) (cs ++ [c])
  | [], [], _, _, _, h => ⟨h, trivial⟩
  | _ :: _, _ :: _, h, _, _, h' => ⟨h.1, h.2.snoc h'⟩
  | [], _ :: _, h, _, _, _ => h.elim
  | _ :: _, [], h, _, _, _ => h.elim

/-- What lies in blocks that do not turn stays. -/
def Still (M : Nat → Prop) (w : World) : Prop := ∀ k c e f, w.heap[k]? = some (.cells c e f) → M k → e = 65 ∨ e = 183

theorem DiskAt.still {w : World} {p bf bs : Nat} {ca : Value} {S : St} (h : DiskAt w p bf bs ca S) : Still (Mut p bf ca) w := by
  intro k c e f hk hm
  rcases hm with rfl | rfl | hm
  · rw [h.own] at hk; cases hk; exact Or.inl rfl
  · obtain ⟨es, cl, hb, _⟩ := h.files
    rw [hb] at hk; cases hk
  · obtain ⟨fs, hr, _⟩ := h.changes
    rcases hr.2 with ⟨hv, _⟩ | ⟨g, cap, cur, hv, _, hh, _⟩
    · rw [hv] at hm; cases hm
    · rw [hv] at hm; cases hm
      rw [hh] at hk; cases hk; exact Or.inr rfl

theorem Disk.still {w : World} {p : Nat} {M : Nat → Prop} {S : St} (h : Disk w p M S) : Still M w := by
  obtain ⟨bf, bs, ca, h, rfl⟩ := h
  exact h.still

section
variable {M : Nat → Prop} {w w' : World}

theorem Fr.cellsAt (h : Fr M w w') (hs : Still M w) {k : Nat} {c : Array Value} {e : TypeId} {f : Nat × Nat} (hk : w.heap[k]? = some (.cells c e f)) (h1 : e ≠ 65) (h2 : e ≠ 183) : w'.heap[k]? = some (.cells c e f) :=
  h.at hk (fun hm => by rcases hs k c e f hk hm with e1 | e1; exact h1 e1; exact h2 e1)

theorem Fr.data (h : Fr M w w') (hs : Still M w) {v : Value} {b : List UInt8} (hd : Data w v b) : Data w' v b := by
  obtain ⟨h1, h2⟩ := hd
  refine ⟨h1, ?_⟩
  rcases h2 with h2 | ⟨g, cap, cur, hv, hg, hh, r⟩
  · exact Or.inl h2
  · exact Or.inr ⟨g, cap, cur, hv, hg, h.cellsAt hs hh (by decide) (by decide), r⟩

theorem Fr.allData (h : Fr M w w') (hs : Still M w) {T : List Tri} (hd : AllData w T) : AllData w' T := fun t ht => h.data hs (hd t ht)

theorem Fr.named (h : Fr M w w') (hs : Still M w) {b : Nat} {k : List UInt8} (hd : Named w b k) : Named w' b k := by
  obtain ⟨s, h1, r⟩ := hd
  exact ⟨s, h.cellsAt hs h1 (by decide) (by decide), r⟩

theorem Fr.clo (h : Fr M w w') (hs : Still M w) {f : Value} {c : Ch} (hd : Clo w f c) : Clo w' f c := by
  rcases c.three with ⟨t, rfl⟩ | ⟨a, b, rfl⟩ | ⟨k, rfl⟩
  · obtain ⟨b1, b2, e, h1, h2, h3⟩ := hd; exact ⟨b1, b2, e, h.cellsAt hs h1 (by decide) (by decide), h.named hs h2, h.data hs h3⟩
  · exact hd.elim
  · exact hd.elim

theorem Fr.clos (h : Fr M w w') (hs : Still M w) : ∀ {fs : List Value} {cs : List Ch}, Clos w fs cs → Clos w' fs cs
  | [], [], _ => trivial
  | _ :: _, _ :: _, hd => ⟨h.clo hs hd.1, Fr.clos h hs hd.2⟩
  | [], _ :: _, hd => hd.elim
  | _ :: _, [], hd => hd.elim
end

theorem heap_setCell_same {w : World} {p i : Nat} {c : Array Value} {e : TypeId} {f : Nat × Nat} (h : w.heap[p]? = some (.cells c e f)) (u : Value) :
    (w.setCell ⟨p, i, none⟩ u).heap[p]? = some (.cells (c.setIfInBounds i u) e f) := by
  simp [World.setCell, Array.getElem?_modify, h]

/-- The cells of a disk, for a walk. -/
theorem DiskAt.cells {w : World} {p bf bs : Nat} {ca : Value} {S : St} (h : DiskAt w p bf bs ca S) :
    w.cell? ⟨p, 0, none⟩ = some (.int .i64 S.room) ∧ w.cell? ⟨p, 1, none⟩ = some (.map (some bf)) ∧ w.cell? ⟨p, 2, none⟩ = some (.map (some bs)) ∧ w.cell? ⟨p, 3, none⟩ = some ca ∧
    w.cell? ⟨p, 4, none⟩ = some (.int .i64 S.acts) ∧ w.cell? ⟨p, 5, none⟩ = some (.int .i64 S.fuse) ∧ w.cell? ⟨p, 6, none⟩ = some (.bool S.down) ∧ ∀ i, w.frozen? ⟨p, i, none⟩ = false := by
  have := h.own
  refine ⟨?_, ?_, ?_, ?_, ?_, ?_, ?_, ?_⟩ <;> simp [World.cell?, World.frozen?, this, cellsOf]

end Go.Proofs.YtdaogldmcbfmoaaGreatDoor

namespace Go.Proofs.YtdaogldmcbfmoaaGreatDoor
open Go.RowKit Go.Maps Go.WideMaps
set_option maxRecDepth 100000

theorem lawS : Keyed Tryz.prog 9 := string_keyed Tryz.underlying9
theorem zeroBS (w : World) : (zeroValue 57).run Tryz.prog w = .ok (.slice none 0 0) w := by kernel_rfl

theorem power_any (p bf bs : Nat) (ca : Value) (S : St) (w : World) (h : DiskAt w p bf bs ca S) :
    Calls Tryz.prog 111 #[.pointer (some ⟨p, 0, none⟩)] w fun e w' =>
      (S.fuse = 0 ∧ e = .returned (.int .i64 13) ∧ w' = w.setCell ⟨p, 6, none⟩ (.bool true)) ∨
      (S.fuse ≠ 0 ∧ S.down = true ∧ e = .returned (.int .i64 13) ∧ w' = w) ∨
      (S.fuse ≠ 0 ∧ S.down = false ∧ e = .returned (.int .i64 0) ∧ w' = w) := by
  obtain ⟨c0, c1, c2, c3, c4, c5, c6, z⟩ := h.cells
  have z6 := z 6
  clear z h
  by_cases hf : S.fuse = 0
  · have hf' : (S.fuse == 0) = true := by simpa using hf
    go_enter Tryz.func111, Tryz.ntmps111
    go_wp2
    go_ret
    exact Or.inl ⟨hf, rfl, rfl⟩
  · have hf' : (S.fuse == 0) = false := by simpa using hf
    cases hd : S.down <;> rw [hd] at c6
    · go_enter Tryz.func111, Tryz.ntmps111
      go_wp2
      go_ret
      exact Or.inr (Or.inr ⟨hf, trivial, rfl, rfl⟩)
    · go_enter Tryz.func111, Tryz.ntmps111
      go_wp2
      go_ret
      exact Or.inr (Or.inl ⟨hf, trivial, rfl, rfl⟩)

theorem count_any (p bf bs : Nat) (ca : Value) (S : St) (w : World) (h : DiskAt w p bf bs ca S) (ha : 0 ≤ S.acts) (ha' : S.acts < 1000000) (hf2 : S.fuse ≤ 9223372036854775807) :
    Calls Tryz.prog 147 #[.pointer (some ⟨p, 0, none⟩)] w fun e w' => e = .returned (.tuple #[]) ∧
      w' = if 0 < S.fuse then (w.setCell ⟨p, 4, none⟩ (.int .i64 (S.acts + 1))).setCell ⟨p, 5, none⟩ (.int .i64 (S.fuse - 1)) else w.setCell ⟨p, 4, none⟩ (.int .i64 (S.acts + 1)) := by
  obtain ⟨c0, c1, c2, c3, c4, c5, c6, z⟩ := h.cells
  have z4 := z 4
  have z5 := z 5
  clear z h
  by_cases hf : 0 < S.fuse
  · rw [if_pos hf]
    go_enter Tryz.func147, Tryz.ntmps147
    go_wp2
    go_end0
    exact ⟨rfl, rfl⟩
  · rw [if_neg hf]
    go_enter Tryz.func147, Tryz.ntmps147
    go_wp2
    go_end0
    exact ⟨rfl, rfl⟩

theorem acts_any (p bf bs : Nat) (ca : Value) (S : St) (w : World) (h : DiskAt w p bf bs ca S) :
    Calls Tryz.prog 24 #[.pointer (some ⟨p, 0, none⟩)] w fun e w' => e = .returned (.int .i64 S.acts) ∧ w' = w := by
  obtain ⟨c0, c1, c2, c3, c4, c5, c6, z⟩ := h.cells
  go_enter Tryz.func24, Tryz.ntmps24
  go_wp2
  go_ret
  exact ⟨rfl, rfl⟩

theorem has_any (p bf bs : Nat) (ca : Value) (S : St) (w : World) (h : DiskAt w p bf bs ca S) (s : ByteArray) (hs : s.size ≤ maxLen) :
    Calls Tryz.prog 29 #[.pointer (some ⟨p, 0, none⟩), .string s] w fun e w' => e = .returned (.bool (get S.F s.data.toList).isSome) ∧ w' = w := by
  obtain ⟨c0, c1, c2, c3, c4, c5, c6, z⟩ := h.cells
  have hown := h.files
  obtain ⟨v, ps, hrun, _⟩ := hown.look_ok lawS Tryz.underlying62 (zeroBS _) (zd := .held (.slice none 0 0)) (zp := []) rfl (keyOf_string_mk Tryz.underlying9 hs)
  rw [has_toD] at hrun
  clear hown h z
  go_enter Tryz.func29, Tryz.ntmps29
  go_wp2
  go_ret
  exact ⟨rfl, rfl⟩

end Go.Proofs.YtdaogldmcbfmoaaGreatDoor

namespace Go.Proofs.YtdaogldmcbfmoaaGreatDoor
open Go.RowKit Go.Maps Go.WideMaps
set_option maxRecDepth 100000

theorem keyOf_string_inv {key : Value} {kl : Lit} (h : keyOf Tryz.prog 9 key = some kl) : ∃ x : ByteArray, key = .string x ∧ kl = .string x.data.toList := by
  cases key <;> simp [keyOf, Tryz.underlying9, mapKey] at h
  exact ⟨_, rfl, h.2.symm⟩

theorem met_le (left : Lit → Bool) (T : List Tri) : met left T ≤ used T := by
  unfold met used
  induction T with
  | nil => simp
  | cons x r ih =>
    rw [List.filter_cons]
    split
    · simp; omega
    · simp; omega

theorem Data.len {w : World} {a : Option Addr} {n c : Nat} {b : List UInt8} (h : Data w (.slice a n c) b) : n = b.length := by
  rcases h.2 with ⟨hv, h0⟩ | ⟨g, cap, cur, hv, _⟩
  · cases hv; exact h0.symm
  · cases hv; rfl

/-- What a range over the files has met. -/
theorem hit {T : List Tri} {k : List UInt8} {v : Value} {ps : List MemPlace} {y : DataW Value × List MemPlace} (hv : heldR v = some y) (hy : y = (y.1, ps)) (hat : ∀ zd, (toD T).atKey (.string k) zd = y.1) : ∃ t, get T k = some t ∧ t.v = v := by
  have e := heldR_eq (hv.trans (by rw [hy]))
  have h0 := hat .nil
  rw [atKey_toD] at h0
  cases hg : get T k with
  | none => rw [hg, e] at h0; simp at h0
  | some t => rw [hg, e] at h0; simp at h0; exact ⟨t, rfl, h0⟩

def None' (_ : Nat) : Prop := False

set_option maxHeartbeats 1000000 in
theorem used_any (p bf bs : Nat) (ca : Value) (S : St) (w : World) (h : DiskAt w p bf bs ca S) (hu : used S.F < 4611686018427387904) :
    Calls Tryz.prog 146 #[.pointer (some ⟨p, 0, none⟩)] w fun e w' => e = .returned (.int .i64 (used S.F)) ∧ Fr None' w w' := by
  obtain ⟨c0, c1, c2, c3, c4, c5, c6, z⟩ := h.cells
  have hown := h.files
  have hA := apart_of_tidy (hown.tidy lawS)
  have hD := h.dataF
  have hlt := hown.lt
  clear z h c0 c2 c3 c4 c5 c6
  go_enter Tryz.func146, Tryz.ntmps146
  go_wp2_with (first
    | (at_range; refine wpList_range_own _ rfl _ 62 rfl 9 57 lawS Tryz.underlying62 _ bf S.n _ rfl hown ?_; intro w0 hrg0 hg0 hs0)
    | go_in)
  go_frame
  go_loopw [3] (fun n wr => ∃ left cnt, wr.ranges Tryz.prog 9 heldR bf w.heap.size S.n (toD S.F) left cnt ∧ n = .int .i64 (met left S.F) ∧ w.grownBy wr none) (fun _ wr => wr.rangeLeft bf w.heap.size)
  case atStart => exact ⟨_, _, hrg0, by rw [met_start]; rfl, hg0⟩
  case round =>
    obtain ⟨left, cnt, hrg, rfl, hgw⟩ := hrel
    have hml := met_le left S.F
    go_wp2_with (first
      | (at_next; refine wpList_next_ranges _ rfl _ rfl 9 lawS heldR Value.string (fun c : Option Addr × Nat × Nat => Value.slice c.1 c.2.1 c.2.2) (fun key kl hk => by obtain ⟨x, hx, _⟩ := keyOf_string_inv hk; exact ⟨x, hx⟩) (fun v y hv => heldR_inv hv) bf w.heap.size S.n _ _ _ rfl hrg ?_ ?_)
      | go_in)
    · intro _ hl0
      have he := met_end (T := S.F) hl0
      go_wp2
      go_ret
      exact ⟨by rw [← he]; rfl, Fr.grown hgw (by simp)⟩
    · intro x a n cap kl d ps w1 cnt1 hkey hlk hv hat hrg1 hlt1 hg1 hs1 hen
      obtain ⟨x', ex, hkl⟩ := keyOf_string_inv hkey
      cases ex
      subst hkl
      obtain ⟨t, ht, htv⟩ := hit (ps := ps) hv rfl hat
      obtain ⟨htm, htk⟩ := get_mem ht
      have hd := hD t htm
      rw [htv] at hd
      have hn := hd.len
      have hst := met_step hA htm (by rw [htk]; exact hlk)
      rw [htk] at hst
      have hml2 := met_le (fun z => left z && !z.sameKey (.string x.data.toList)) S.F
      have Hst : Hid (met (fun z => left z && !z.sameKey (.string x.data.toList)) S.F = met left S.F + n) := by rw [hn]; exact hst
      have hb : met left S.F + n < 4611686018427387904 := by rw [hn]; omega
      clear hst hn hd htv ht htm htk hat hv hkey hlk
      go_wp2
      go_roundw
      case rel =>
        refine ⟨_, _, hrg1, ?_, hgw.andThen hg1 (fun j e => by cases e; exact Or.inl (Nat.le_refl _))⟩
        rw [Hst.out]
        go_num
      case measure => rw [hrg1.left_eq, hrg.left_eq]; omega
end Go.Proofs.YtdaogldmcbfmoaaGreatDoor

namespace Go.Proofs.YtdaogldmcbfmoaaGreatDoor
open Go.RowKit Go.Maps Go.WideMaps
set_option maxRecDepth 100000

/-- The slice v, whoever made it, holds the bytes b. -/
def Bytes (w : World) (v : Value) (b : List UInt8) : Prop :=
  (v = .slice none 0 0 ∧ b = []) ∨ ∃ ad c, v = .slice (some ad) b.length c ∧ ∀ j u, (u8s b)[j]? = some u → w.cell? (ad.add j) = some u

theorem Data.bytes {w : World} {v : Value} {b : List UInt8} (h : Data w v b) : Bytes w v b := by
  rcases h.2 with ⟨hv, h0⟩ | ⟨g, cap, cur, hv, _, hh, _, _, _, ht⟩
  · exact Or.inl ⟨hv, by simpa using h0⟩
  · refine Or.inr ⟨_, _, hv, fun j u hj => ?_⟩
    rw [← ht] at hj
    have hj' : cur.toList[j]? = some u := by
      rw [List.getElem?_take] at hj
      split at hj
      · exact hj
      · cases hj
    have e : (⟨g, 0, none⟩ : Addr).add j = ⟨g, j, none⟩ := by unfold Addr.add; split <;> simp_all
    rw [e]
    simp [World.cell?, hh]
    simpa using hj'

theorem cell_alloc {w : World} {a : Addr} {u : Value} (h : w.cell? a = some u) (o : Obj) : (w.alloc o).cell? a = some u := by
  have hlt : a.block < w.heap.size := by
    unfold World.cell? at h
    split at h
    · rename_i hk; exact lt_of_some hk
    · cases h
  rw [World.cell?_of_block (w := w) (Below.heap_alloc _ _ _ hlt)]
  exact h

theorem Data.nil (w : World) : Data w (.slice none 0 0) [] := ⟨rfl, Or.inl ⟨rfl, rfl⟩⟩

theorem Tryz.infoU : (Tryz.prog.info? 5).map (fun i => (i.zero, i.size, i.bytes)) = some (some (.int .u8 0), 1, 1) := by kernel_rfl
theorem Tryz.infoC : (Tryz.prog.info? 183).map (fun i => (i.zero, i.size, i.bytes)) = some (some .nilFunc, 1, 8) := by kernel_rfl

theorem u8s_one (b : List UInt8) : ∀ u ∈ u8s b, u.oneCell' = true := by
  intro u hu
  obtain ⟨c, _, rfl⟩ := List.mem_map.1 hu
  rfl

set_option maxHeartbeats 1000000 in
theorem bclone_any (v : Value) (b : List UInt8) (w : World) (h : Bytes w v b) (hb : b.length ≤ 70368744177664) :
    Calls Tryz.prog 30 #[v] w fun e w' => ∃ v', e = .returned v' ∧ Data w' v' b ∧ Fr None' w w' := by
  have hq := fun (w : World) (a : Option Addr) (n c : Nat) => Lib.run_eql_slice_nil (P := Tryz.prog) w 57 5 a n c 0 0 Tryz.underlying57
  obtain ⟨i0, hi, hz0, hz1, hz2⟩ := info_parts Tryz.infoU
  rcases h with ⟨rfl, rfl⟩ | ⟨ad, c, rfl, hc⟩
  · go_enter Tryz.func30, Tryz.ntmps30
    go_wp2
    go_ret
    exact ⟨_, rfl, Data.nil _, Fr.refl _ _⟩
  · have hlen : (u8s b).length = b.length * 1 := by simp [u8s]
    have hcell : ∀ o j u, (u8s b)[j]? = some u → (w.alloc o).cell? (ad.add j) = some u := fun o j u hj => cell_alloc (hc j u hj) o
    have hone := u8s_one b
    have hown : ∀ e, (w.alloc (.cells #[] e)).ownsRow 0 e 1 (.slice (some ⟨w.heap.size, 0, none⟩) 0 0) 0 [] := fun e =>
      ⟨rfl, Or.inr ⟨w.heap.size, 0, #[], rfl, Nat.zero_le _, (MapKept.heap_alloc w _).1, Nat.le_refl _, Nat.zero_le _, rfl, rfl⟩⟩
    clear hc
    go_enter Tryz.func30, Tryz.ntmps30
    go_wp2_with (first
      | (at_builtin; refine wpList_append_own_at _ rfl _ _ 57 rfl 0 5 i0 (.int .u8 0) 1 1 Tryz.underlying57 hi hz0 hz1 hz2 rfl (by decide) _ 0 [] rfl (hown _) ad b.length c (u8s b) rfl hlen (hcell _) hone (by unfold maxLen; omega) (by omega) (Nat.zero_le _) ?_; intro v' w1 hown1 hg1 hnil hloc)
      | go_in)
    go_ret
    refine ⟨_, rfl, ?_, ?_⟩
    · simpa [Data] using hown1
    · exact (Fr.alloc _ _ _).trans (M' := fun k => w.heap.size ≤ k) (Fr.grown hg1 (fun k e => by cases e; exact Nat.le_refl _)) (fun i hi => Or.inr hi)

end Go.Proofs.YtdaogldmcbfmoaaGreatDoor

namespace Go.Proofs.YtdaogldmcbfmoaaGreatDoor
open Go.RowKit Go.Maps Go.WideMaps
set_option maxRecDepth 100000

/-- May this byte be in a name? -/
def okc (c : UInt8) : Bool := decide ((97 ≤ c.toNat ∧ c.toNat ≤ 122) ∨ (48 ≤ c.toNat ∧ c.toNat ≤ 57) ∨ c.toNat = 46 ∨ c.toNat = 45)
/-- Are these bytes a name? -/
def right (l : List UInt8) : Bool := decide (1 ≤ l.length) && decide (l.length ≤ 70) && l.all okc

theorem okc_t {c : UInt8} (h : (97 ≤ c.toNat ∧ c.toNat ≤ 122) ∨ (48 ≤ c.toNat ∧ c.toNat ≤ 57) ∨ c.toNat = 46 ∨ c.toNat = 45) : okc c = true := by simpa [okc] using h
theorem okc_f {c : UInt8} (h : ¬ ((97 ≤ c.toNat ∧ c.toNat ≤ 122) ∨ (48 ≤ c.toNat ∧ c.toNat ≤ 57) ∨ c.toNat = 46 ∨ c.toNat = 45)) : okc c = false := by simpa [okc] using h

theorem ret_bool {a b : Bool} (h : a = b) : Ending.returned (.bool a) = .returned (.bool b) := by rw [h]

set_option maxHeartbeats 1000000 in
theorem inName_any (c : UInt8) (w : World) : Calls Tryz.prog 62 #[.int .u8 c.toNat] w fun e w' => e = .returned (.bool (okc c)) ∧ w' = w := by
  go_enter Tryz.func62, Tryz.ntmps62
  go_wp2
  all_goals go_ret
  all_goals refine ⟨ret_bool ?_, rfl⟩
  all_goals first | exact (okc_t (by omega)).symm | (rw [Bool.eq_iff_iff]; simp [okc]; omega)

theorem take_snoc (s : ByteArray) (k : Nat) (h : k < s.size) : s.data.toList.take (k + 1) = s.data.toList.take k ++ [s[k]] := by
  rw [List.take_succ_eq_append_getElem (by simpa using h)]; rfl

theorem all_step {s : ByteArray} {k : Nat} (h : k < s.size) (ha : (s.data.toList.take k).all okc = true) (hc : okc s[k] = true) : (s.data.toList.take (k + 1)).all okc = true := by
  rw [take_snoc s k h, List.all_append, ha]
  simp [hc]

theorem all_no {s : ByteArray} {k : Nat} (h : k < s.size) (hc : okc s[k] = false) : s.data.toList.all okc = false := by
  rw [List.all_eq_false]
  exact ⟨s[k], List.getElem_mem (l := s.data.toList) (n := k) (by rw [show s.data.toList.length = s.size from by cases s; rfl]; exact h), by simp [hc]⟩

theorem right_no {s : ByteArray} (h : s.size < 1 ∨ 70 < s.size) : right s.data.toList = false := by
  have e : s.data.toList.length = s.size := by cases s; rfl
  unfold right; rw [e]
  rcases h with h | h
  · have : decide (1 ≤ s.size) = false := by simpa using h
    simp [this]
  · have : decide (s.size ≤ 70) = false := by simpa using h
    simp [this]

set_option maxHeartbeats 1000000 in
theorem isName_any (s : ByteArray) (w : World) (hs : s.size ≤ maxLen) : Calls Tryz.prog 28 #[.string s] w fun e w' => e = .returned (.bool (right s.data.toList)) ∧ w' = w := by
  have e : s.data.toList.length = s.size := by cases s; rfl
  unfold maxLen at hs
  by_cases h1 : s.size < 1
  · have hr := right_no (Or.inl h1)
    go_enter Tryz.func28, Tryz.ntmps28
    go_wp2
    go_ret
    exact ⟨by first | rfl | (rw [hr]; rfl), rfl⟩
  by_cases h2 : 70 < s.size
  · have hr := right_no (Or.inr h2)
    go_enter Tryz.func28, Tryz.ntmps28
    go_wp2
    go_ret
    exact ⟨by first | rfl | (rw [hr]; rfl), rfl⟩
  have hR : Hid (right s.data.toList = s.data.toList.all okc) := by
    unfold Hid right; rw [e]
    simp; omega
  clear e
  go_enter Tryz.func28, Tryz.ntmps28
  go_wp2
  go_loop [14] (fun i => ∃ k : Nat, k ≤ s.size ∧ i = .int .i64 k ∧ (s.data.toList.take k).all okc = true) (fun i => s.size - (intOf i).toNat)
  case atStart => exact ⟨0, Nat.zero_le _, rfl, rfl⟩
  case round =>
    obtain ⟨k, hk, rfl, hall⟩ := hrel
    have HA : Hid ((s.data.toList.take k).all okc = true) := hall
    clear hall
    by_cases hlt : k < s.size
    · cases hc : okc s[k]
      · go_wp2_with (go_at_call 62; refine (inName_any _ _).mono ?_; rintro e w' ⟨rfl, rfl⟩)
        go_ret
        refine ⟨?_, rfl⟩
        rw [hR.out, all_no hlt hc]
        rfl
      · go_wp2_with (go_at_call 62; refine (inName_any _ _).mono ?_; rintro e w' ⟨rfl, rfl⟩)
        go_round
        case rel => exact ⟨k + 1, by omega, by go_num, all_step hlt HA.out hc⟩
        case measure => simp [intOf]; omega
    · go_wp2
      go_ret
      refine ⟨?_, rfl⟩
      have ht := HA.out
      rw [List.take_of_length_le (by rw [show s.data.toList.length = s.size from by cases s; rfl]; omega)] at ht
      rw [hR.out, ht]
      rfl

end Go.Proofs.YtdaogldmcbfmoaaGreatDoor

namespace Go.Proofs.YtdaogldmcbfmoaaGreatDoor
open Go.RowKit Go.Maps Go.WideMaps
set_option maxRecDepth 100000

theorem eql_map_nil (w : World) (p : Option Nat) : (binOp .eql 62 (.map p) (.map none)).run Tryz.prog w = .ok (.bool p.isNone) w :=
  run_eql_map_nil (P := Tryz.prog) w 62 9 57 p Tryz.underlying62

theorem assert_map (w : World) (v : Value) : (Instr.typeAssert (.iface 62 v) 20 62 false).run Tryz.prog w = .ok v w := by
  simp [Instr.typeAssert, run_underlying Tryz.underlying62, go_sem, Result.andThen]

theorem clone_run {w : World} {r : Nat} {es : Array MapEntry} {clock : Nat} (hb : w.heap[r]? = some (.map es clock)) :
    (Extern.MapsClone.clone #[.iface 62 (.map (some r))]).run Tryz.prog w = .ok (.iface 62 (.map (some w.heap.size))) (w.alloc (.map es clock)) := by
  obtain ⟨s, e⟩ : ∃ s, Extern.MapsClone.clone #[.iface 62 (.map (some r))] = (getObj r >>= fun o => match o with
      | .map a c => (newObj (.map a c) >>= fun n => pure (.iface 62 (.map (some n))))
      | _ => stuck s) := ⟨_, rfl⟩
  rw [e]
  simp [MapKept.run_getObj_map hb, Result.andThen, go_sem]

set_option maxHeartbeats 1000000 in
theorem mclone_any (b n : Nat) (D : DataW Value) (w : World) (h : w.ownsMap Tryz.prog 9 heldR b n D) :
    Calls Tryz.prog 63 #[.map (some b)] w fun e w' => e = .returned (.map (some w.heap.size)) ∧ ∃ o, w' = w.alloc o ∧ w'.ownsMap Tryz.prog 9 heldR w.heap.size n D := by
  obtain ⟨es, clock, hb, F, hs, hD⟩ := h
  have hq := fun w => eql_map_nil w (some b)
  go_enter Tryz.func63, Tryz.ntmps63
  go_wp2
  rw [run_callFunc_extern Tryz.func102 (by kernel_rfl) (by kernel_rfl) (by kernel_rfl) (e := Extern.MapsClone.clone) (by kernel_rfl), clone_run hb]
  simp only [Result.andThen]
  rw [Oper.upon_value]
  go_wp2
  rw [assert_map]
  simp only [Result.andThen]
  rw [Oper.upon_value]
  go_wp2
  go_ret
  exact ⟨rfl, _, rfl, es, clock, (MapKept.heap_alloc w _).1, F, hs, hD⟩

/-- A disk behind a store into its own block. -/
theorem DiskAt.stored {w : World} {p bf bs bf' bs' : Nat} {ca ca' : Value} {S S' : St} {i : Nat} {u : Value} (h : DiskAt w p bf bs ca S)
    (he : (cellsOf S bf bs ca).setIfInBounds i u = cellsOf S' bf' bs' ca')
    (hf : (w.setCell ⟨p, i, none⟩ u).ownsMap Tryz.prog 9 heldR bf' S'.n (toD S'.F)) (hy : (w.setCell ⟨p, i, none⟩ u).ownsMap Tryz.prog 9 heldR bs' S'.n (toD S'.Y)) (hne : bf' ≠ bs')
    (hc : ∃ fs, (w.setCell ⟨p, i, none⟩ u).ownsRow 0 183 1 ca' S'.ch.length fs ∧ Clos w fs S'.ch) (hdF : AllData w S'.F) (hdY : AllData w S'.Y) :
    DiskAt (w.setCell ⟨p, i, none⟩ u) p bf' bs' ca' S' := by
  have hfr : Fr (Mut p bf ca) w (w.setCell ⟨p, i, none⟩ u) := Fr.setCell w (a := ⟨p, i, none⟩) (Or.inl rfl) u
  obtain ⟨fs, h1, h2⟩ := hc
  exact ⟨by rw [heap_setCell_same h.own, he], hf, hy, hne, ⟨fs, h1, hfr.clos h.still h2⟩, hfr.allData h.still hdF, hfr.allData h.still hdY⟩

theorem DiskAt.p_map {w : World} {p bf bs : Nat} {ca : Value} {S : St} (h : DiskAt w p bf bs ca S) {b n : Nat} {D : DataW Value} (hm : w.ownsMap Tryz.prog 9 heldR b n D) : b ≠ p := by
  intro e
  obtain ⟨es, cl, hb, _⟩ := hm
  rw [e, h.own] at hb
  cases hb

theorem DiskAt.p_row {w : World} {p bf bs : Nat} {ca : Value} {S : St} (h : DiskAt w p bf bs ca S) : ca.ownBlock ≠ some p := by
  intro e
  obtain ⟨fs, hr, _⟩ := h.changes
  rcases hr.2 with ⟨hv, _⟩ | ⟨g, cap, cur, hv, _, hh, _⟩
  · rw [hv] at e; cases e
  · rw [hv] at e; cases e
    rw [h.own] at hh; cases hh

/-- The fields that are no memory are written. -/
theorem DiskAt.field {w : World} {p bf bs : Nat} {ca : Value} {S S' : St} {i : Nat} {u : Value} (h : DiskAt w p bf bs ca S)
    (he : (cellsOf S bf bs ca).setIfInBounds i u = cellsOf S' bf bs ca) (hF : S'.F = S.F) (hY : S'.Y = S.Y) (hch : S'.ch = S.ch) (hn : S'.n = S.n) : DiskAt (w.setCell ⟨p, i, none⟩ u) p bf bs ca S' := by
  refine h.stored he ?_ ?_ h.ne ?_ (hF ▸ h.dataF) (hY ▸ h.dataY)
  · rw [hF, hn]; exact h.files.setCell (h.p_map h.files) _
  · rw [hY, hn]; exact h.synced.setCell (h.p_map h.synced) _
  · obtain ⟨fs, h1, h2⟩ := h.changes
    rw [hch]
    refine ⟨fs, (Fr.setCell (M := fun k => k = p) w (a := ⟨p, i, none⟩) rfl u).row h1 (fun g e e' => h.p_row (e' ▸ e)), h2⟩

/-- Blocks turn that are not the disk's. -/
theorem DiskAt.kept {w w' : World} {p bf bs : Nat} {ca : Value} {S : St} {M : Nat → Prop} (h : DiskAt w p bf bs ca S) (hfr : Fr M w w') (hs : Still M w) (hM : ∀ k, Mut p bf ca k ∨ k = bs → ¬ M k) : DiskAt w' p bf bs ca S := by
  obtain ⟨fs, h1, h2⟩ := h.changes
  exact ⟨hfr.at h.own (hM _ (Or.inl (Or.inl rfl))), hfr.map h.files (hM _ (Or.inl (Or.inr (Or.inl rfl)))), hfr.map h.synced (hM _ (Or.inr rfl)), h.ne,
    ⟨fs, hfr.row h1 (fun g e => hM _ (Or.inl (Or.inr (Or.inr e)))), hfr.clos hs h2⟩, hfr.allData hs h.dataF, hfr.allData hs h.dataY⟩

theorem DiskAt.fresh {w w' : World} {p bf bs : Nat} {ca : Value} {S : St} (h : DiskAt w p bf bs ca S) (hfr : Fr None' w w') : DiskAt w' p bf bs ca S :=
  h.kept hfr (fun _ _ _ _ _ hm => hm.elim) (fun _ _ hm => hm)

def St.settled (S : St) : St := { S with Y := S.F, ch := [] }

set_option maxHeartbeats 1000000 in
theorem settle_any (p bf bs : Nat) (ca : Value) (S : St) (w : World) (h : DiskAt w p bf bs ca S) :
    Calls Tryz.prog 31 #[.pointer (some ⟨p, 0, none⟩)] w fun e w' => e = .returned (.tuple #[]) ∧ DiskAt w' p bf w.heap.size (.slice none 0 0) S.settled ∧ Fr (fun k => k = p) w w' := by
  obtain ⟨c0, c1, c2, c3, c4, c5, c6, z⟩ := h.cells
  have hp := lt_of_some h.own
  have hown := h.files
  clear z c0 c2 c3 c4 c5 c6
  go_enter Tryz.func31, Tryz.ntmps31
  go_wp2_with (go_at_call 63; refine (mclone_any _ _ _ _ hown).mono ?_; rintro e w1 ⟨rfl, o, hw1, hcl⟩; have hf : Fr (fun k => k = p) w w1 := hw1 ▸ Fr.alloc _ _ _; have h1 : DiskAt w1 p bf bs ca S := h.fresh (hw1 ▸ Fr.alloc _ _ _); clear hw1; obtain ⟨_, _, d2, d3, _, _, _, z⟩ := h1.cells; have z2 := z 2; have z3 := z 3; clear z)
  go_end0
  refine ⟨rfl, ?_, (hf.trans (M' := fun k => k = p) (Fr.setCell w1 (a := ⟨p, 2, none⟩) (by rfl) _) (fun _ h => Or.inl h)).trans (M' := fun k => k = p) (Fr.setCell _ (a := ⟨p, 3, none⟩) (by rfl) _) (fun _ h => Or.inl h)⟩
  have hne : bf ≠ w.heap.size := Nat.ne_of_lt hown.lt
  have h2 : DiskAt (w1.setCell ⟨p, 2, none⟩ (.map (some w.heap.size))) p bf w.heap.size ca { S with Y := S.F } :=
    h1.stored rfl (h1.files.setCell (h1.p_map h1.files) _) (hcl.setCell (h1.p_map hcl) _) hne (by
      obtain ⟨fs, a1, a2⟩ := h1.changes
      exact ⟨fs, (Fr.setCell (M := fun k => k = p) _ (a := ⟨p, 2, none⟩) rfl _).row a1 (fun g e e' => h.p_row (e' ▸ e)), a2⟩) h1.dataF h1.dataF
  exact h2.stored rfl (h2.files.setCell (h2.p_map h2.files) _) (h2.synced.setCell (h2.p_map h2.synced) _) hne ⟨[], World.ownsRow_nil _ _ _ _, trivial⟩ h2.dataF h2.dataY

/-! ### Sync -/
def St.counted (S : St) : St := { S with acts := S.acts + 1, fuse := if 0 < S.fuse then S.fuse - 1 else S.fuse }

/-- The power is asked. -/
def St.asked (S : St) : St := { S with down := S.down || S.fuse == 0 }

structure St.fine (S : St) : Prop where
  a0 : 0 ≤ S.acts
  a1 : S.acts < 1000000
  f1 : S.fuse ≤ 9223372036854775807
  n1 : S.n < 1000000
  c1 : S.ch.length < 1000000

theorem DiskAt.counted {w : World} {p bf bs : Nat} {ca : Value} {S : St} (h : DiskAt w p bf bs ca S) (ha0 : 0 ≤ S.acts) (ha1 : S.acts < 1000000) (hf1 : S.fuse ≤ 9223372036854775807) :
    Calls Tryz.prog 147 #[.pointer (some ⟨p, 0, none⟩)] w fun e w' => e = .returned (.tuple #[]) ∧ DiskAt w' p bf bs ca S.counted ∧ Fr (fun k => k = p) w w' := by
  refine (count_any p bf bs ca S w h ha0 ha1 hf1).mono ?_
  rintro e w' ⟨rfl, rfl⟩
  refine ⟨rfl, ?_⟩
  have h1 : DiskAt (w.setCell ⟨p, 4, none⟩ (.int .i64 (S.acts + 1))) p bf bs ca { S with acts := S.acts + 1 } := h.field rfl rfl rfl rfl rfl
  unfold St.counted
  split
  · exact ⟨h1.field rfl rfl rfl rfl rfl, (Fr.setCell _ (by rfl) _).trans (M' := fun k => k = p) (Fr.setCell _ (by rfl) _) (fun _ h => Or.inl h)⟩
  · exact ⟨h1, Fr.setCell _ (by rfl) _⟩

theorem DiskAt.asked {w : World} {p bf bs : Nat} {ca : Value} {S : St} (h : DiskAt w p bf bs ca S) :
    Calls Tryz.prog 111 #[.pointer (some ⟨p, 0, none⟩)] w fun e w' => e = .returned (.int .i64 (if S.asked.down then 13 else 0)) ∧ DiskAt w' p bf bs ca S.asked ∧ Fr (fun k => k = p) w w' := by
  refine (power_any p bf bs ca S w h).mono ?_
  rintro e w' (⟨hf, rfl, rfl⟩ | ⟨hf, hd, rfl, rfl⟩ | ⟨hf, hd, rfl, rfl⟩)
  · have e1 : S.asked = { S with down := true } := by simp [St.asked, hf]
    rw [e1]
    exact ⟨rfl, h.field rfl rfl rfl rfl rfl, Fr.setCell _ (by rfl) _⟩
  · have e1 : S.asked = S := by cases S; simp_all [St.asked]
    rw [e1, hd]
    exact ⟨rfl, h, Fr.refl _ _⟩
  · have e1 : S.asked = S := by cases S; simp_all [St.asked]
    rw [e1, hd]
    exact ⟨rfl, h, Fr.refl _ _⟩

/-- Sync. -/
def St.sync (S : St) : Int × St := if S.asked.down then (13, S.asked) else (0, S.asked.settled.counted)

theorem DiskAt.disk {w : World} {p bf bs : Nat} {ca : Value} {S : St} (h : DiskAt w p bf bs ca S) : Disk w p (Mut p bf ca) S := ⟨bf, bs, ca, h, rfl⟩

theorem fine_asked {S : St} (h : S.fine) : S.asked.fine := ⟨h.a0, h.a1, h.f1, h.n1, h.c1⟩
theorem fine_settled {S : St} (h : S.fine) : S.settled.fine := ⟨h.a0, h.a1, h.f1, h.n1, by simp [St.settled]⟩

end Go.Proofs.YtdaogldmcbfmoaaGreatDoor

namespace Go.Proofs.YtdaogldmcbfmoaaGreatDoor
open Go.RowKit Go.Maps Go.WideMaps
set_option maxRecDepth 100000

theorem heldR_data {w : World} {v : Value} {b : List UInt8} (h : Data w v b) : heldR v = some (.held v, []) := by
  rcases h.2 with ⟨hv, _⟩ | ⟨g, cap, cur, hv, _⟩ <;> rw [hv] <;> rfl

theorem named_cell {w : World} {b : Nat} {k : List UInt8} (h : Named w b k) : ∃ s : ByteArray, w.cell? ⟨b, 0, none⟩ = some (.string s) ∧ keyOf Tryz.prog 9 (.string s) = some (.string k) := by
  obtain ⟨s, h1, h2, h3⟩ := h
  exact ⟨s, by simp [World.cell?, h1], by rw [← h2]; exact keyOf_string_mk Tryz.underlying9 h3⟩

theorem turned_cell {w w' : World} {b : Nat} {a : Addr} {u : Value} (ht : w.mapTurned w' b) (h : w.cell? a = some u) : w'.cell? a = some u := by
  have hg := ht.grown
  obtain ⟨es, clock, _, _, hb, _⟩ := ht
  have hk : ∃ o, w.heap[a.block]? = some o ∧ ∀ es c, o ≠ .map es c := by
    unfold World.cell? at h
    split at h
    · rename_i hk; exact ⟨_, hk, by simp⟩
    · cases h
  obtain ⟨o, hk, hne⟩ := hk
  rw [World.cell?_of_block (w := w) (hg.block a.block (lt_of_some hk) (fun e => by
    have e' : a.block = b := by simpa using e
    rw [e', hb] at hk
    cases hk
    exact hne _ _ rfl))]
  exact h

/-- A write, done once more on the map bm. -/
theorem w1_any (bm n b1 b2 : Nat) (t : Tri) (T : List Tri) (w : World) (h1 : w.heap[b1]? = some (.cells #[t.v] 57)) (h2 : Named w b2 t.k) (h3 : Data w t.v t.b) (hm : w.ownsMap Tryz.prog 9 heldR bm n (toD T)) (hn : n < maxLen) :
    Calls Tryz.prog 114 #[.map (some bm), .pointer (some ⟨b1, 0, none⟩), .pointer (some ⟨b2, 0, none⟩)] w fun e w' => e = .returned (.tuple #[]) ∧ w'.ownsMap Tryz.prog 9 heldR bm (n + 1) (toD (put T t)) ∧ w.mapTurned w' bm := by
  obtain ⟨s, c2, hkey⟩ := named_cell h2
  have c1 : w.cell? ⟨b1, 0, none⟩ = some t.v := by simp [World.cell?, h1]
  have hv := heldR_data h3
  clear h1 h2 h3
  go_enter Tryz.func114, Tryz.ntmps114
  go_wp2_with (first
    | (at_mapUpdate; refine wpList_mapUpdate_in _ rfl _ _ _ 62 rfl 9 57 lawS Tryz.underlying62 _ bm n _ rfl hm hn _ _ _ rfl rfl hkey _ [] hv ?_; intro w1 hown1 hturn1)
    | go_in)
  go_end0
  exact ⟨rfl, toD_put T t ▸ hown1, hturn1⟩


/-- The files turn. -/
theorem DiskAt.turned {w w' : World} {p bf bs n : Nat} {ca : Value} {S : St} {F : List Tri} (h : DiskAt w p bf bs ca S) (ht : w.mapTurned w' bf) (hn : S.n ≤ n) (hf : w'.ownsMap Tryz.prog 9 heldR bf n (toD F)) (hd : AllData w F) :
    DiskAt w' p bf bs ca { S with F := F, n := n } := by
  have hfr : Fr (Mut p bf ca) w w' := Fr.turned ht (Or.inr (Or.inl rfl))
  have hfr' : Fr (fun k => k = bf) w w' := Fr.turned ht rfl
  have hs := h.still
  obtain ⟨fs, h1, h2⟩ := h.changes
  refine ⟨hfr'.at h.own (fun e => h.p_map h.files e.symm), hf, (hfr'.map h.synced (fun e => h.ne e.symm)).mono hn, h.ne, ⟨fs, hfr'.row h1 (fun g e e' => ?_), hfr.clos hs h2⟩, hfr.allData hs hd, hfr.allData hs h.dataY⟩
  subst e'
  rcases h1.2 with ⟨hv, _⟩ | ⟨g', cap, cur, hv, _, hh, _⟩
  · rw [hv] at e; cases e
  · rw [hv] at e; cases e
    obtain ⟨es, cl, hb, _⟩ := h.files
    rw [hb] at hh; cases hh

theorem allData_app {w : World} {f : Value} {c : Ch} {T : List Tri} (hc : Clo w f c) (h : AllData w T) : AllData w (c.app T) := by
  intro t ht
  rcases c.three with ⟨x, rfl⟩ | ⟨a, b, rfl⟩ | ⟨k, rfl⟩
  · obtain ⟨_, _, _, _, _, hd⟩ := hc
    rcases mem_put.1 ht with rfl | ⟨h1, _⟩
    · exact hd
    · exact h t h1
  · simp only [Ch.app] at ht
    split at ht
    · exact h t ht
    · rename_i x hx
      rcases mem_put.1 ht with rfl | ⟨h1, _⟩
      · exact h x (get_mem hx).1
      · exact h t (mem_del.1 h1).1
  · exact hc.elim

def St.did (S : St) (c : Ch) : St := { S with F := c.app S.F, n := S.n + 1, ch := S.ch ++ [c] }.counted

theorem DiskAt.appended {w w2 : World} {p bf bs : Nat} {ca v' f : Value} {S : St} {c : Ch} {fs : List Value} (h : DiskAt w p bf bs ca S) (hfs : Clos w fs S.ch) (hc : Clo w f c) (hg : w.grownBy w2 ca.ownBlock)
    (hr : w2.ownsRow 0 183 1 v' (S.ch.length + 1) (fs ++ [f])) (hloc : v'.ownBlock = ca.ownBlock ∨ v'.ownBlock = some w.heap.size) :
    DiskAt (w2.setCell ⟨p, 3, none⟩ v') p bf bs v' { S with ch := S.ch ++ [c] } := by
  have hs := h.still
  have hfr : Fr (Mut p bf ca) w w2 := Fr.grown hg (fun k e => Or.inr (Or.inr e))
  have hfr' : Fr (fun k => ca.ownBlock = some k) w w2 := Fr.grown hg (fun k e => e)
  have ho := hfr'.at h.own h.p_row
  have hb : ∀ {b n : Nat} {D : DataW Value}, w.ownsMap Tryz.prog 9 heldR b n D → ca.ownBlock ≠ some b := fun {b n D} hm e => by
    obtain ⟨fs', hr', _⟩ := h.changes
    obtain ⟨es, cl, hb, _⟩ := hm
    rcases hr'.2 with ⟨hv, _⟩ | ⟨g', cap, cur, hv, _, hh, _⟩
    · rw [hv] at e; cases e
    · rw [hv] at e; cases e
      rw [hb] at hh; cases hh
  have hf := hfr'.map h.files (hb h.files)
  have hy := hfr'.map h.synced (hb h.synced)
  have hvp : v'.ownBlock ≠ some p := by
    rcases hloc with e | e <;> rw [e]
    · exact h.p_row
    · have := lt_of_some h.own
      intro e'; injection e' with e'; omega
  have hset : Fr (fun k => k = p) w2 (w2.setCell ⟨p, 3, none⟩ v') := Fr.setCell w2 (a := ⟨p, 3, none⟩) (by rfl) v'
  have hall : Fr (Mut p bf ca) w (w2.setCell ⟨p, 3, none⟩ v') := hfr.trans hset (fun i e => Or.inl (Or.inl e))
  refine ⟨by rw [heap_setCell_same ho]; rfl, hset.map hf (h.p_map h.files), hset.map hy (h.p_map h.synced), h.ne, ⟨fs ++ [f], ?_, (hall.clos hs hfs).snoc (hall.clo hs hc)⟩, hall.allData hs h.dataF, hall.allData hs h.dataY⟩
  have := hset.row hr (fun g e e' => hvp (e' ▸ e))
  simpa using this

theorem row_slice {w : World} {base : Nat} {e : TypeId} {size : Nat} {v : Value} {n : Nat} {xs : List Value} (h : w.ownsRow base e size v n xs) : ∃ a c, v = .slice a n c := by
  rcases h.2 with ⟨hv, h0⟩ | ⟨g, cap, cur, hv, _⟩
  · exact ⟨none, 0, by rw [hv, h0]⟩
  · exact ⟨_, _, hv⟩

set_option maxHeartbeats 2000000 in
theorem do_any (p bf bs : Nat) (ca f : Value) (S : St) (c : Ch) (w : World) (h : DiskAt w p bf bs ca S) (hc : Clo w f c) (hS : S.fine) :
    Calls Tryz.prog 113 #[.pointer (some ⟨p, 0, none⟩), f] w fun e w' => e = .returned (.tuple #[]) ∧ ∃ ca', DiskAt w' p bf bs ca' (S.did c) ∧ Fr (Mut p bf ca) w w' ∧ ∀ k, Mut p bf ca' k → Mut p bf ca k ∨ w.heap.size ≤ k := by
  obtain ⟨i0, hi, hz0, hz1, hz2⟩ := info_parts Tryz.infoC
  obtain ⟨_, c1, _⟩ := h.cells
  have hn : S.n < maxLen := by have := hS.n1; unfold maxLen; omega
  have hl := hS.c1
  have hcl : ∃ t b1 b2, c = Ch.wr t ∧ f = .func (.func 114) #[] #[.pointer (some ⟨b1, 0, none⟩), .pointer (some ⟨b2, 0, none⟩)] ∧ w.heap[b1]? = some (.cells #[t.v] 57) ∧ Named w b2 t.k ∧ Data w t.v t.b := by
    rcases c.three with ⟨t, rfl⟩ | ⟨a, b, rfl⟩ | ⟨k, rfl⟩
    · obtain ⟨b1, b2, r⟩ := hc; exact ⟨t, b1, b2, rfl, r⟩
    · exact hc.elim
    · exact hc.elim
  have hdata := allData_app hc h.dataF
  -- what follows the change
  have after : ∀ w1, w1.ownsMap Tryz.prog 9 heldR bf (S.n + 1) (toD (c.app S.F)) → w.mapTurned w1 bf →
      ∃ fs, DiskAt w1 p bf bs ca { S with F := c.app S.F, n := S.n + 1 } ∧ Fr (Mut p bf ca) w w1 ∧ w1.ownsRow 0 183 1 ca S.ch.length fs ∧ Clos w1 fs S.ch ∧ Clo w1 f c := fun w1 hm ht => by
    have h1 := h.turned ht (Nat.le_succ _) hm hdata
    have f1 : Fr (Mut p bf ca) w w1 := Fr.turned ht (Or.inr (Or.inl rfl))
    obtain ⟨fs, a1, a2⟩ := h1.changes
    exact ⟨fs, h1, f1, a1, a2, f1.clo h.still hc⟩
  have then2 : ∀ w1 o v' w2 fs, DiskAt w1 p bf bs ca { S with F := c.app S.F, n := S.n + 1 } → Fr (Mut p bf ca) w w1 → Clos w1 fs S.ch → Clo w1 f c → (w1.alloc o).grownBy w2 ca.ownBlock → w2.ownsRow 0 183 1 v' (S.ch.length + 1) (fs ++ [f]) →
      (v'.ownBlock = ca.ownBlock ∨ v'.ownBlock = some (w1.alloc o).heap.size) →
      w2.cell? ⟨p, 3, none⟩ = some ca ∧ w2.frozen? ⟨p, 3, none⟩ = false ∧ DiskAt (w2.setCell ⟨p, 3, none⟩ v') p bf bs v' { S with F := c.app S.F, n := S.n + 1, ch := S.ch ++ [c] } ∧
        (Fr (Mut p bf ca) w (w2.setCell ⟨p, 3, none⟩ v') ∧ ∀ k, Mut p bf v' k → Mut p bf ca k ∨ w.heap.size ≤ k) := by
    intro w1 o v' w2 fs h1 f1 hfs k1 hg hr hloc
    have hA : DiskAt (w1.alloc o) p bf bs ca { S with F := c.app S.F, n := S.n + 1 } := h1.fresh (Fr.alloc _ _ _)
    have fA : Fr None' w1 (w1.alloc o) := Fr.alloc _ _ _
    have sA : Still None' w1 := fun _ _ _ _ _ hm => hm.elim
    have hfr : Fr (Mut p bf ca) (w1.alloc o) w2 := Fr.grown hg (fun k e => Or.inr (Or.inr e))
    have hfr' : Fr (fun k => ca.ownBlock = some k) (w1.alloc o) w2 := Fr.grown hg (fun k e => e)
    have ho := hfr'.at hA.own hA.p_row
    refine ⟨by simp [World.cell?, ho, cellsOf], by simp [World.frozen?, ho], hA.appended (fA.clos sA hfs) (fA.clo sA k1) hg hr hloc, ?_, ?_⟩
    · exact (f1.trans (M' := Mut p bf ca) ((fA.mono (fun _ e => e.elim)).trans hfr (fun i e => Or.inl e)) (fun i e => Or.inl e)).trans (M' := fun k => k = p) (Fr.setCell w2 (a := ⟨p, 3, none⟩) (by rfl) v') (fun i e => Or.inl (Or.inl e))
    · intro k hk
      rcases hk with hk | hk | hk
      · exact Or.inl (Or.inl hk)
      · exact Or.inl (Or.inr (Or.inl hk))
      · rcases hloc with e | e
        · exact Or.inl (Or.inr (Or.inr (e ▸ hk)))
        · rw [e] at hk
          injection hk with hk
          have := f1.size
          simp at hk
          exact Or.inr (by omega)
  obtain ⟨t, b1, b2, rfl, rfl, q1, q2, q3⟩ := hcl
  go_enter Tryz.func113, Tryz.ntmps113
  go_wp2_with (first
    | (go_at_call 114; refine (w1_any bf S.n b1 b2 t S.F _ q1 q2 q3 h.files hn).mono ?_; rintro e w1 ⟨rfl, hm, ht⟩; obtain ⟨fs, h1, f1, hrow, hfs, k1⟩ := after w1 hm ht; obtain ⟨_, _, _, d3, _⟩ := h1.cells; clear hm ht after)
    | (at_builtin; refine wpList_append_own_at _ rfl _ _ 63 rfl 0 183 i0 .nilFunc 1 8 Tryz.underlying63 hi hz0 hz1 hz2 rfl (by decide) _ _ _ rfl (hrow.alloc _) ⟨w1.heap.size, 0, none⟩ 1 1 [.func (.func 114) #[] #[.pointer (some ⟨b1, 0, none⟩), .pointer (some ⟨b2, 0, none⟩)]] rfl rfl (cell_one_new _ _ _) (fun u hu => by simp at hu; subst hu; rfl) (by unfold maxLen; omega) (by omega) (Nat.zero_le _) ?_; intro v' w2 hown2 hg2 hnil hloc; obtain ⟨va, vc, rfl⟩ := row_slice hown2; obtain ⟨e3, z3, h2, hk2⟩ := then2 w1 _ _ w2 fs h1 f1 hfs k1 hg2 hown2 hloc; clear hg2 hown2 hloc hnil d3)
    | (go_at_call 147; refine (h2.counted hS.a0 hS.a1 hS.f1).mono ?_; rintro e w3 ⟨rfl, h3, f3⟩))
  go_end0
  exact ⟨rfl, _, h3, hk2.1.trans f3 (fun i e => Or.inl (Or.inl e)), hk2.2⟩

end Go.Proofs.YtdaogldmcbfmoaaGreatDoor
