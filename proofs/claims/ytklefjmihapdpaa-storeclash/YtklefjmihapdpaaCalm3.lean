/-
  What is proved here: plain facts on SetRoot and Put of a disk as lists of files. No condition but those that are named.
-/
import Derived.Test.YtklefjmihapdpaaSet3
import Derived.Test.YtklefjmihapdpaaFilesOut
namespace Go.Proofs.Ytklefjmihapdpaa
open Go.RowKit Go.Maps Go.WideMaps
set_option maxRecDepth 100000

theorem right_new : right newK = true := by decide
theorem right_root : right rootK = true := by decide
theorem new_ne_root : newK ≠ rootK := by decide
theorem file_ne_root (x : List UInt8) : fileK x ≠ rootK := by unfold fileK rootK; simp
theorem file_ne_new (x : List UInt8) : fileK x ≠ newK := by unfold fileK newK; simp

theorem okd_okc {c : UInt8} (h : Sha.okd c = true) : okc c = true := by
  unfold Sha.okd at h
  unfold okc
  simp only [decide_eq_true_eq] at h ⊢
  omega

theorem right_file {x : List UInt8} (h : Sha.namedB x = true) : right (fileK x) = true := by
  have hl := namedB_length h
  have ha : x.all Sha.okd = true := by
    unfold Sha.namedB at h
    simp only [Bool.and_eq_true] at h
    exact h.2
  unfold right
  rw [fileK_length hl]
  simp only [Bool.and_eq_true]
  refine ⟨⟨by decide, by decide⟩, ?_⟩
  unfold fileK
  rw [List.all_append]
  have h1 : [(111 : UInt8), 46].all okc = true := by decide
  rw [h1, Bool.true_and, List.all_eq_true]
  intro c hc
  exact okd_okc (List.all_eq_true.1 ha c (List.mem_of_mem_take hc))

/-- The power is there, and no fuse. -/
def Calm (S : St) : Prop := S.down = false ∧ S.fuse = -1

theorem Calm.asked {S : St} (h : Calm S) : S.asked = S := by
  obtain ⟨h1, h2⟩ := h
  cases S
  simp_all [St.asked]

theorem Calm.sync {S : St} (h : Calm S) : S.sync = (0, S.settled.counted) := by
  unfold St.sync
  rw [h.asked, h.1]
  simp

theorem Calm.counted {S : St} (h : Calm S) : Calm S.counted := by
  obtain ⟨h1, h2⟩ := h
  refine ⟨h1, ?_⟩
  show (if 0 < S.fuse then S.fuse - 1 else S.fuse) = -1
  rw [h2]; decide

theorem Calm.write {S : St} (h : Calm S) {t : Tri} (hk : right t.k = true) (hb : t.b.length ≤ 65536) (hF : get S.F t.k ≠ none ∨ S.F.length < 512) (hr : (used S.F : Int) - lenAt S.F t.k + t.b.length ≤ S.room) : S.write t = (0, S.did (Ch.wr t)) := by
  have e : S.refuse t.k t.b.length = 0 := by
    unfold St.refuse
    rw [if_neg (by simp [hk]), if_neg (by
      rintro (h | ⟨h1, h2⟩)
      · omega
      · rcases hF with h | h
        · exact h h1
        · omega), if_neg (by omega)]
  unfold St.write
  rw [h.asked, h.1, e]
  simp

theorem Calm.rename {S : St} (h : Calm S) {a b : List UInt8} (hb : right b = true) (ha : (get S.F a).isSome = true) : S.rename a b = (0, S.did (Ch.mv a b)) := by
  unfold St.rename
  rw [h.asked, h.1, hb, ha]
  simp

theorem Calm.did {S : St} (h : Calm S) (c : Ch) : Calm (S.did c) := Calm.counted (S := { S with F := c.app S.F, n := S.n + 1, ch := S.ch ++ [c] }) h
theorem Calm.settled {S : St} (h : Calm S) : Calm S.settled := h

theorem Calm.read {S : St} (h : Calm S) (k : List UInt8) : S.read k = match get S.F k with | none => ([], 12) | some t => (t.b, 0) := by
  unfold St.read
  rw [h.1]
  rfl

/-- What SetRoot makes of the files. -/
def setF (F : List Tri) (x : List UInt8) (v : Value) : List Tri := put (del (put F ⟨newK, v, x⟩) newK) ⟨rootK, v, x⟩

structure SetOk (S : St) (x : List UInt8) (v : Value) (r : Int) (T : St) : Prop where
  ok : r = 0
  F : T.F = setF S.F x v
  Y : T.Y = T.F
  ch : T.ch = []
  calm : Calm T
  room : T.room = S.room
  acts : T.acts = S.acts + 5

theorem set_ok {S : St} {x : List UInt8} {v : Value} {r : Int} {T : St} (hc : Calm S) (hx : x.length ≤ 65536) (hF : get S.F newK ≠ none ∨ S.F.length < 512) (hr : (used S.F : Int) - lenAt S.F newK + x.length ≤ S.room) (h : Ended S x v r T) : SetOk S x v r T := by
  have a0 : St.stepAt x v 0 S = (0, S.settled.counted) := hc.sync
  have b0 : St.after S x v 1 = S.settled.counted := by show (St.stepAt x v 0 S).2 = _; rw [a0]
  have c0 : Calm S.settled.counted := hc.settled.counted
  have a1 : St.stepAt x v 1 S.settled.counted = (0, S.settled.counted.did (Ch.wr ⟨newK, v, x⟩)) := c0.write right_new hx hF hr
  obtain ⟨S2, hS2⟩ : ∃ S2, S.settled.counted.did (Ch.wr ⟨newK, v, x⟩) = S2 := ⟨_, rfl⟩
  rw [hS2] at a1
  have b1 : St.after S x v 2 = S2 := by show (St.stepAt x v 1 (St.after S x v 1)).2 = _; rw [b0, a1]
  have c1 : Calm S2 := hS2 ▸ c0.did _
  have F2 : S2.F = put S.F ⟨newK, v, x⟩ := by rw [← hS2]; rfl
  have a2 : St.stepAt x v 2 S2 = (0, S2.settled.counted) := c1.sync
  obtain ⟨S3, hS3⟩ : ∃ S3, S2.settled.counted = S3 := ⟨_, rfl⟩
  rw [hS3] at a2
  have b2 : St.after S x v 3 = S3 := by show (St.stepAt x v 2 (St.after S x v 2)).2 = _; rw [b1, a2]
  have c2 : Calm S3 := hS3 ▸ c1.settled.counted
  have F3 : S3.F = put S.F ⟨newK, v, x⟩ := by rw [← hS3]; exact F2
  have a3 : St.stepAt x v 3 S3 = (0, S3.did (Ch.mv newK rootK)) := c2.rename right_root (by rw [F3, get_put_same S.F ⟨newK, v, x⟩]; rfl)
  obtain ⟨S4, hS4⟩ : ∃ S4, S3.did (Ch.mv newK rootK) = S4 := ⟨_, rfl⟩
  rw [hS4] at a3
  have b3 : St.after S x v 4 = S4 := by show (St.stepAt x v 3 (St.after S x v 3)).2 = _; rw [b2, a3]
  have c3 : Calm S4 := hS4 ▸ c2.did _
  have F4 : S4.F = setF S.F x v := by
    rw [← hS4]
    show (Ch.mv newK rootK).app S3.F = _
    unfold Ch.app
    simp only
    rw [F3, get_put_same S.F ⟨newK, v, x⟩]
    rfl
  have a4 : St.stepAt x v 4 S4 = (0, S4.settled.counted) := c3.sync
  have b4 : St.after S x v 5 = S4.settled.counted := by show (St.stepAt x v 4 (St.after S x v 4)).2 = _; rw [b3, a4]
  obtain ⟨j, hj, hall, h | ⟨h1, h2, h3, h4⟩⟩ := h
  · obtain ⟨_, rfl, rfl⟩ := h
    rw [b4]
    refine ⟨rfl, F4, rfl, rfl, c3.settled.counted, ?_, ?_⟩
    · rw [← hS4, ← hS3, ← hS2]; rfl
    · rw [← hS4, ← hS3, ← hS2]
      simp only [St.counted, St.settled, St.did]
      omega
  · exfalso
    apply h3
    rw [h2]
    have : j = 0 ∨ j = 1 ∨ j = 2 ∨ j = 3 ∨ j = 4 := by omega
    rcases this with rfl | rfl | rfl | rfl | rfl
    · show (St.stepAt x v 0 S).1 = 0; rw [a0]
    · rw [b0, a1]
    · rw [b1, a2]
    · rw [b2, a3]
    · rw [b3, a4]

theorem del_put (T : List Tri) (t : Tri) : del (put T t) t.k = del T t.k := by
  unfold put
  have : ∀ L : List Tri, (∀ y ∈ L, y.k ≠ t.k) → del (ins t L) t.k = L := by
    intro L
    induction L with
    | nil => intro _; simp [ins, del]
    | cons y r ih =>
      intro h
      have hy := h y (by simp)
      have hr := ih (fun z hz => h z (by simp [hz]))
      unfold ins
      split
      · have hd : del (y :: r) t.k = y :: r := by
          unfold del
          rw [List.filter_eq_self]
          intro z hz
          simpa using h z hz
        show del (t :: y :: r) t.k = _
        unfold del at hd ⊢
        rw [List.filter_cons_of_neg (by simp)]
        exact hd
      · unfold del at hr ⊢
        rw [List.filter_cons_of_pos (by simpa using hy), hr]
  exact this _ (fun y hy => (mem_del.1 hy).2)

theorem setF_eq (F : List Tri) (x : List UInt8) (v : Value) : setF F x v = put (del F newK) ⟨rootK, v, x⟩ := by
  unfold setF
  rw [del_put F ⟨newK, v, x⟩]

theorem get_setF_root (F : List Tri) (x : List UInt8) (v : Value) : get (setF F x v) rootK = some ⟨rootK, v, x⟩ := get_put_same _ ⟨rootK, v, x⟩
theorem get_setF_other (F : List Tri) (x : List UInt8) (v : Value) {k : List UInt8} (h1 : k ≠ newK) (h2 : k ≠ rootK) : get (setF F x v) k = get F k := by
  rw [setF_eq, get_put_other (x := ⟨rootK, v, x⟩) h2, get_del_other h1]

theorem put_new {S : St} (h : Calm S) (b : List UInt8) (v : Value) (hg : get S.F (fileK (nm b)) = none) (hb : b.length ≤ 65536) (hF : S.F.length < 512) (hr : (used S.F : Int) + b.length ≤ S.room) : S.put b v = (nm b, 0, S.did (Ch.wr ⟨fileK (nm b), v, b⟩)) := by
  have hl : lenAt S.F (fileK (nm b)) = 0 := by unfold lenAt; rw [hg]
  have hw := h.write (t := ⟨fileK (nm b), v, b⟩) (right_file (namedB_nm b)) hb (Or.inr hF) (by rw [hl]; simpa using hr)
  have hR : S.read (fileK (nm b)) = ([], 12) := by rw [h.read, hg]
  unfold St.put
  rw [hR, hw]
  simp

theorem put_same {S : St} (h : Calm S) (b : List UInt8) (v : Value) {t : Tri} (hg : get S.F (fileK (nm b)) = some t) (ht : t.b = b) : S.put b v = (nm b, 0, S) := by
  have hR : S.read (fileK (nm b)) = (b, 0) := by rw [h.read, hg]; show (t.b, 0) = (b, 0); rw [ht]
  unfold St.put
  rw [hR]
  simp

theorem get_ok {S : St} (h : Calm S) {x : List UInt8} {t : Tri} (hx : Sha.namedB x = true) (hg : get S.F (fileK x) = some t) (ht : nm t.b = x) : S.getB x = (t.b, 0) := by
  have hR : S.read (fileK x) = (t.b, 0) := by rw [h.read, hg]
  unfold St.getB
  rw [hR, hx]
  simp [ht]

theorem root_ok {S : St} (h : Calm S) {t : Tri} (hg : get S.F rootK = some t) (ht : Sha.namedB t.b = true) : S.rootB = (t.b, 0) := by
  have hR : S.read rootK = (t.b, 0) := by rw [h.read, hg]
  unfold St.rootB
  rw [hR]
  simp [ht]

theorem arg_new (w : World) (b : List UInt8) (c : Nat) (fr : Nat × Nat) (hc : b.length ≤ c) : Arg (w.alloc (.cells (u8s b).toArray 5 fr)) (.slice (some ⟨w.heap.size, 0, none⟩) b.length c) b := by
  refine ⟨bytes_new w b c fr, _, _, rfl, hc, fun i hi => ⟨_, _, rfl, ?_⟩⟩
  have hh := (MapKept.heap_alloc w (.cells (u8s b).toArray 5 fr)).1
  unfold World.cell?
  simp only [hh, Nat.zero_add]
  unfold mOf
  simp [u8s, List.getElem?_eq_getElem hi]

theorem del_none {T : List Tri} {k : List UInt8} (h : get T k = none) : del T k = T := by
  unfold del
  rw [List.filter_eq_self]
  intro t ht
  unfold get at h
  rw [List.find?_eq_none] at h
  have := h t ht
  simpa using this

theorem ins_length (x : Tri) : ∀ T : List Tri, (ins x T).length = T.length + 1
  | [] => rfl
  | y :: r => by
    unfold ins
    split
    · simp
    · simp [ins_length x r]

theorem put_length {T : List Tri} {x : Tri} (h : get T x.k = none) : (put T x).length = T.length + 1 := by
  unfold put
  rw [ins_length, del_none h]

theorem sortedFiles_length (T : List Tri) : (sortedFiles T).length = T.length := by
  unfold sortedFiles sortedNames
  simp
end Go.Proofs.Ytklefjmihapdpaa
