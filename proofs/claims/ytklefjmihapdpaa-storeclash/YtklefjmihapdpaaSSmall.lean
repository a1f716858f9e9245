/-
  What is proved here: what the small functions answer: right, word, isDigit; and the document's turned. No condition.
-/
import Derived.Test.YtklefjmihapdpaaProg
import Derived.Test.YtklefjmihapdpaaSPlain
namespace Go.Proofs.Ytklefjmihapdpaa.Sha
set_option maxRecDepth 100000

theorem info64 : (Try.prog.info? 78).map (·.size) = some 64 := by kernel_rfl
theorem info8 : (Try.prog.info? 80).map (·.size) = some 8 := by kernel_rfl
theorem info32 : (Try.prog.info? 60).map (·.size) = some 32 := by kernel_rfl
theorem info128 : (Try.prog.info? 89).map (·.size) = some 128 := by kernel_rfl
theorem infoN64 : (Try.prog.info? 70).map (·.size) = some 64 := by kernel_rfl
theorem mixed : Try.prog.follows .mixedOrders = true := by kernel_rfl

theorem rotl_any (x : Int) (n : Nat) (h0 : 0 < n) (hn : n < 32) (w : World) : Calls Try.prog 86 #[.int .u32 x, .int .i64 (-n)] w fun e w' => e = .returned (.int .u32 (rotr x n)) ∧ w = w' := by
  have e31 : bits .and .u64 (IntKind.u64.wrap (-(n : Int))) 31 = 32 - (n : Int) := by
    have := neg31 ⟨n, hn⟩ (by intro h; cases h; omega)
    simpa [IntKind.wrap, IntKind.bits, IntKind.signed] using this
  have hR : rotr x n = bits .or .u32 (IntKind.u32.wrap (x * 2 ^ (32 - n))) (x / 2 ^ n) := or_comm32 _ _
  have e1 : (32 - (n : Int)).toNat = 32 - n := by omega
  have hsl : Op.shift .shl .u32 x .u64 (32 - (n : Int)) = pure (.int .u32 (IntKind.u32.wrap (x * 2 ^ (32 - n)))) := by rw [shift_shl .u32 .u64 x _ (by omega) (by show _ ≤ (32 : Int); omega), e1]
  have e2 : (32 - (32 - (n : Int))) = n := by omega
  have e3 : IntKind.u64.wrap (32 - (32 - (n : Int))) = n := by rw [e2]; simp [IntKind.wrap, IntKind.bits, IntKind.signed]; omega
  have hsr : Op.shift .shr .u32 x .u64 (n : Int) = pure (.int .u32 (x / 2 ^ n)) := by rw [shift_shr .u32 .u64 x _ (by omega) (by show _ ≤ (32 : Int); omega)]; rfl
  rw [hR]
  clear hR e1 e2
  go_enter Try.func86, Try.ntmps86
  go_wp2
  go_ret
  exact ⟨rfl, rfl⟩

theorem right_any (x : Int) (n : Nat) (h0 : 0 < n) (hn : n < 32) (w : World) : Calls Try.prog 78 #[.int .u32 x, .int .i64 n] w fun e w' => e = .returned (.int .u32 (rotr x n)) ∧ w = w' := by
  have hc := rotl_any x n h0 hn w
  have hn' : (n : Int) < 32 := by omega
  clear hn
  go_enter Try.func78, Try.ntmps78
  go_wp2_with fail
  refine hc.mono ?_
  rintro e w' ⟨rfl, rfl⟩
  go_wp2
  go_ret
  exact ⟨rfl, rfl⟩

theorem right_q (x : Int) (n : Nat) (h0 : 0 < n) (hn : n < 32) {w : World} {k : Nat} : Calls Try.prog 78 #[.int .u32 x, .int .i64 n] (w.drewN k) fun e w' => e = .returned (.int .u32 (rotr x n)) ∧ ∃ m, w' = w.drewN m :=
  (right_any x n h0 hn _).mono fun _ _ h => ⟨h.1, k, h.2.symm⟩

theorem turned_any (x : Int) (n : Nat) (h0 : 0 < n) (hn : n < 32) (w : World) : Calls Try.prog 51 #[.int .u32 x, .int .i64 n] w fun e w' => e = .returned (.int .u32 (rotr x n)) ∧ ∃ k, w' = w.drewN k := by
  have e1 : (32 - (n : Int)).toNat = 32 - n := by omega
  have hsl : Op.shift .shl .u32 x .i64 (32 - (n : Int)) = pure (.int .u32 (IntKind.u32.wrap (x * 2 ^ (32 - n)))) := by rw [shift_shl .u32 .i64 x _ (by omega) (by show _ ≤ (32 : Int); omega), e1]
  have hsr : Op.shift .shr .u32 x .i64 (n : Int) = pure (.int .u32 (x / 2 ^ n)) := by rw [shift_shr .u32 .i64 x _ (by omega) (by show _ ≤ (32 : Int); omega)]; rfl
  have e3 : IntKind.i64.wrap (32 - (n : Int)) = 32 - n := by rw [IntKind.wrap_i64]; omega
  clear hn e1
  unfold rotr
  go_enter Try.func51, Try.ntmps51
  go_wp2_with fail
  go_quiet (fail)
  go_wp2
  go_ret
  exact ⟨rfl, ⟨_, rfl⟩⟩

theorem turned_q (x : Int) (n : Nat) (h0 : 0 < n) (hn : n < 32) {w : World} {k : Nat} : Calls Try.prog 51 #[.int .u32 x, .int .i64 n] (w.drewN k) fun e w' => e = .returned (.int .u32 (rotr x n)) ∧ ∃ m, w' = w.drewN m :=
  Calls.quiet_of (turned_any x n h0 hn _)

theorem right_q2 (x : Int) {w : World} {k : Nat} : Calls Try.prog 78 #[.int .u32 x, .int .i64 2] (w.drewN k) fun e w' => e = .returned (.int .u32 (rotr x 2)) ∧ ∃ m, w' = w.drewN m := right_q x 2 (by omega) (by omega)
theorem right_q6 (x : Int) {w : World} {k : Nat} : Calls Try.prog 78 #[.int .u32 x, .int .i64 6] (w.drewN k) fun e w' => e = .returned (.int .u32 (rotr x 6)) ∧ ∃ m, w' = w.drewN m := right_q x 6 (by omega) (by omega)
theorem right_q7 (x : Int) {w : World} {k : Nat} : Calls Try.prog 78 #[.int .u32 x, .int .i64 7] (w.drewN k) fun e w' => e = .returned (.int .u32 (rotr x 7)) ∧ ∃ m, w' = w.drewN m := right_q x 7 (by omega) (by omega)
theorem right_q11 (x : Int) {w : World} {k : Nat} : Calls Try.prog 78 #[.int .u32 x, .int .i64 11] (w.drewN k) fun e w' => e = .returned (.int .u32 (rotr x 11)) ∧ ∃ m, w' = w.drewN m := right_q x 11 (by omega) (by omega)
theorem right_q13 (x : Int) {w : World} {k : Nat} : Calls Try.prog 78 #[.int .u32 x, .int .i64 13] (w.drewN k) fun e w' => e = .returned (.int .u32 (rotr x 13)) ∧ ∃ m, w' = w.drewN m := right_q x 13 (by omega) (by omega)
theorem right_q17 (x : Int) {w : World} {k : Nat} : Calls Try.prog 78 #[.int .u32 x, .int .i64 17] (w.drewN k) fun e w' => e = .returned (.int .u32 (rotr x 17)) ∧ ∃ m, w' = w.drewN m := right_q x 17 (by omega) (by omega)
theorem right_q18 (x : Int) {w : World} {k : Nat} : Calls Try.prog 78 #[.int .u32 x, .int .i64 18] (w.drewN k) fun e w' => e = .returned (.int .u32 (rotr x 18)) ∧ ∃ m, w' = w.drewN m := right_q x 18 (by omega) (by omega)
theorem right_q19 (x : Int) {w : World} {k : Nat} : Calls Try.prog 78 #[.int .u32 x, .int .i64 19] (w.drewN k) fun e w' => e = .returned (.int .u32 (rotr x 19)) ∧ ∃ m, w' = w.drewN m := right_q x 19 (by omega) (by omega)
theorem right_q22 (x : Int) {w : World} {k : Nat} : Calls Try.prog 78 #[.int .u32 x, .int .i64 22] (w.drewN k) fun e w' => e = .returned (.int .u32 (rotr x 22)) ∧ ∃ m, w' = w.drewN m := right_q x 22 (by omega) (by omega)
theorem right_q25 (x : Int) {w : World} {k : Nat} : Calls Try.prog 78 #[.int .u32 x, .int .i64 25] (w.drewN k) fun e w' => e = .returned (.int .u32 (rotr x 25)) ∧ ∃ m, w' = w.drewN m := right_q x 25 (by omega) (by omega)
theorem turned_q2 (x : Int) {w : World} {k : Nat} : Calls Try.prog 51 #[.int .u32 x, .int .i64 2] (w.drewN k) fun e w' => e = .returned (.int .u32 (rotr x 2)) ∧ ∃ m, w' = w.drewN m := turned_q x 2 (by omega) (by omega)
theorem turned_q6 (x : Int) {w : World} {k : Nat} : Calls Try.prog 51 #[.int .u32 x, .int .i64 6] (w.drewN k) fun e w' => e = .returned (.int .u32 (rotr x 6)) ∧ ∃ m, w' = w.drewN m := turned_q x 6 (by omega) (by omega)
theorem turned_q7 (x : Int) {w : World} {k : Nat} : Calls Try.prog 51 #[.int .u32 x, .int .i64 7] (w.drewN k) fun e w' => e = .returned (.int .u32 (rotr x 7)) ∧ ∃ m, w' = w.drewN m := turned_q x 7 (by omega) (by omega)
theorem turned_q11 (x : Int) {w : World} {k : Nat} : Calls Try.prog 51 #[.int .u32 x, .int .i64 11] (w.drewN k) fun e w' => e = .returned (.int .u32 (rotr x 11)) ∧ ∃ m, w' = w.drewN m := turned_q x 11 (by omega) (by omega)
theorem turned_q13 (x : Int) {w : World} {k : Nat} : Calls Try.prog 51 #[.int .u32 x, .int .i64 13] (w.drewN k) fun e w' => e = .returned (.int .u32 (rotr x 13)) ∧ ∃ m, w' = w.drewN m := turned_q x 13 (by omega) (by omega)
theorem turned_q17 (x : Int) {w : World} {k : Nat} : Calls Try.prog 51 #[.int .u32 x, .int .i64 17] (w.drewN k) fun e w' => e = .returned (.int .u32 (rotr x 17)) ∧ ∃ m, w' = w.drewN m := turned_q x 17 (by omega) (by omega)
theorem turned_q18 (x : Int) {w : World} {k : Nat} : Calls Try.prog 51 #[.int .u32 x, .int .i64 18] (w.drewN k) fun e w' => e = .returned (.int .u32 (rotr x 18)) ∧ ∃ m, w' = w.drewN m := turned_q x 18 (by omega) (by omega)
theorem turned_q19 (x : Int) {w : World} {k : Nat} : Calls Try.prog 51 #[.int .u32 x, .int .i64 19] (w.drewN k) fun e w' => e = .returned (.int .u32 (rotr x 19)) ∧ ∃ m, w' = w.drewN m := turned_q x 19 (by omega) (by omega)
theorem turned_q22 (x : Int) {w : World} {k : Nat} : Calls Try.prog 51 #[.int .u32 x, .int .i64 22] (w.drewN k) fun e w' => e = .returned (.int .u32 (rotr x 22)) ∧ ∃ m, w' = w.drewN m := turned_q x 22 (by omega) (by omega)
theorem turned_q25 (x : Int) {w : World} {k : Nat} : Calls Try.prog 51 #[.int .u32 x, .int .i64 25] (w.drewN k) fun e w' => e = .returned (.int .u32 (rotr x 25)) ∧ ∃ m, w' = w.drewN m := turned_q x 25 (by omega) (by omega)

theorem word_any (b : Nat) (o len cap : Nat) (x0 x1 x2 x3 : Int) (w : World) (hl : 4 ≤ len)
  (c0 : w.cell? ⟨b, o, none⟩ = some (.int .u8 x0)) (c1 : w.cell? ⟨b, o + 1, none⟩ = some (.int .u8 x1)) (c2 : w.cell? ⟨b, o + 2, none⟩ = some (.int .u8 x2)) (c3 : w.cell? ⟨b, o + 3, none⟩ = some (.int .u8 x3)) :
   Calls Try.prog 85 #[.slice (some ⟨b, o, none⟩) len cap] w fun e w' => e = .returned (.int .u32 (word4 x0 x1 x2 x3)) ∧ ∃ k, w' = w.drewN k := by
  have l0 : (0 : Int) < (len : Int) := by omega
  have l1 : (1 : Int) < (len : Int) := by omega
  have l2 : (2 : Int) < (len : Int) := by omega
  have l3 : (3 : Int) < (len : Int) := by omega
  have l00 : 0 < len := by omega
  clear hl
  go_enter Try.func85, Try.ntmps85
  go_wp2_with fail
  go_quiet (fail)
  go_wp2
  go_ret
  exact ⟨rfl, ⟨_, rfl⟩⟩

end Go.Proofs.Ytklefjmihapdpaa.Sha
