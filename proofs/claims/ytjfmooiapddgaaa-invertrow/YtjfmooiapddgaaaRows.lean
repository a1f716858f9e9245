/-
  No cell of these rows narrows 'for every input' (looked for: loops, veiled, ifaces, maps, wideKeys, modest, calm, conditions, laid).
  DERIVED. THE GIVEN ROWS OF THIS SEAT. 2 by the template 'for every input the law returns true; each argument reads behind the call as it read before'; 0 by the template 'total and deterministic' (their statements: YtjfmooiapddgaaaTotals.lean).
  GIVEN WITH THE SEED: the statements are not yours to turn. If you find one false, say at which input.
  Laid BY PROGRAM, IN A SANDBOX (cutbox-rows.mjs): the forced cells as the released guide's own fill.sh prints them over the translation 3e1451c2f89163c8… (all of the seat's roots in one cut). By AI agents, Wed Nov 11 2026. No macro, syntax, notation, axiom, sorry.
-/
import Derived.Test.YtjfmooiapddgaaaChecked
import GoSem.Claim
import GoSem.ClaimJoined
import GoSem.ClaimMapViews
import Derived.JoinedTies
import Derived.KernelRfl
namespace Go.Proofs.Ytjfmooiapddgaaa
/- THE CELL 'sum', in the pinned program and in every row, IS THE sha256 OF THE DUMP (.gsa) THAT YtjfmooiapddgaaaProg.lean LOADS. Nothing in Lean hashes anything: it is a label: what it is worth is what the hold of that sum in a sandbox is worth. -/
noncomputable def Try.pinned : Pinned := { name := "ytjfmooiapddgaaa", sum := "3e1451c2f89163c8141021d7fe12ca5d754186a3fb5ada3dd68b37d992ed5d6c", checked := Try.checked }
namespace Rows
def none {H : Type} : Left H := { results := [], args := [] }

/-- 'counterpanelaw09.InvertTells': WHATEVER THE INPUT: true; the input reads as it did. -/
def invertTellsSpec : ChangeSpec := { name := "invertTells", fn := fun _ => fun
  | [d1, d2] => { results := [.lit (.bool true)], args := [d1, d2] }
  | _ => none }
def invertTellsRow : OpenClaim := { program := "ytjfmooiapddgaaa", sum := "3e1451c2f89163c8141021d7fe12ca5d754186a3fb5ada3dd68b37d992ed5d6c", func := "counterpane/counterpanelaw09.InvertTells", spec := "invertTells", unfollowed := true, recurses := true, apart := false }
def InvertTellsSaid : Prop := invertTellsRow.holds Try.pinned (OpenSpec.ofChange invertTellsSpec)

/-- ITS FALSE NEIGHBOUR: 'it returns false'. Refute it at one input. -/
def invertTellsWrong : ChangeSpec := { name := "invertTells", fn := fun _ => fun
  | [d1, d2] => { results := [.lit (.bool false)], args := [d1, d2] }
  | _ => none }
def InvertTellsWrongFalsely : Prop := invertTellsRow.holds Try.pinned (OpenSpec.ofChange invertTellsWrong)

/-- 'counterpanelaw09.InvertRow': WHATEVER THE INPUT: true; the input reads as it did. -/
def invertRowSpec : ChangeSpec := { name := "invertRow", fn := fun _ => fun
  | [d1, d2] => { results := [.lit (.bool true)], args := [d1, d2] }
  | _ => none }
def invertRowRow : OpenClaim := { program := "ytjfmooiapddgaaa", sum := "3e1451c2f89163c8141021d7fe12ca5d754186a3fb5ada3dd68b37d992ed5d6c", func := "counterpane/counterpanelaw09.InvertRow", spec := "invertRow", unfollowed := true, recurses := true, apart := false }
def InvertRowSaid : Prop := invertRowRow.holds Try.pinned (OpenSpec.ofChange invertRowSpec)

/-- ITS FALSE NEIGHBOUR: 'it returns false'. Refute it at one input. -/
def invertRowWrong : ChangeSpec := { name := "invertRow", fn := fun _ => fun
  | [d1, d2] => { results := [.lit (.bool false)], args := [d1, d2] }
  | _ => none }
def InvertRowWrongFalsely : Prop := invertRowRow.holds Try.pinned (OpenSpec.ofChange invertRowWrong)

/- THE SECOND FORM. 'bulk': how many values and letters a reading holds, each counted each time it is reached (what is shared counts as often as it is met; a slice's spare places count too). A statement '..UptoSaid' is the law's where the arguments, and the package variables that the reading takes, are together of bulk at most 1048576: NARROWER than '..Said'. Prove '..Said' where nothing that the law and all that it calls make is longer than what came in: it says more and counts as full. Else prove '..UptoSaid'. A law counts once. -/
mutual
def uptoBulk {H : Type} : DataW H → Nat
  | .lit (.string bytes) => bytes.length + 1
  | .lit _ => 1
  | .nil => 1
  | .ptr d => uptoBulk d + 1
  | .slice elems spare => uptoBulkAll elems + uptoBulkAll spare + 1
  | .agg parts => uptoBulkAll parts + 1
  | .iface _ d => uptoBulk d + 1
  | .map entries => uptoBulkEntries entries + 1
  | .held _ => 1
def uptoBulkAll {H : Type} : List (DataW H) → Nat
  | [] => 0
  | d :: r => uptoBulk d + uptoBulkAll r
def uptoBulkEntries {H : Type} : List (Lit × DataW H) → Nat
  | [] => 0
  | x :: r => uptoBulkEntry x + uptoBulkEntries r
def uptoBulkEntry {H : Type} : Lit × DataW H → Nat
  | (.string bytes, d) => bytes.length + uptoBulk d + 1
  | (_, d) => uptoBulk d + 1
 end
def uptoSmall : (H : Type) → List (DataW H) → Bool := fun _ ds => decide (uptoBulkAll ds ≤ 1048576)
def OpenSpec.upto (s : _root_.Go.ChangeSpec) : _root_.Go.OpenSpec := { _root_.Go.OpenSpec.ofChange s with cond := some uptoSmall }

/-- 'counterpanelaw09.InvertTells', WHERE WHAT IT READS IS OF BULK AT MOST 1048576: true; the input reads as it did. -/
def invertTellsUptoRow : OpenClaim := { program := "ytjfmooiapddgaaa", sum := "3e1451c2f89163c8141021d7fe12ca5d754186a3fb5ada3dd68b37d992ed5d6c", func := "counterpane/counterpanelaw09.InvertTells", spec := "invertTells", unfollowed := true, recurses := true, apart := false, narrowed := true }
def InvertTellsUptoSaid : Prop := invertTellsUptoRow.holds Try.pinned (OpenSpec.upto invertTellsSpec)

/-- 'counterpanelaw09.InvertRow', WHERE WHAT IT READS IS OF BULK AT MOST 1048576: true; the input reads as it did. -/
def invertRowUptoRow : OpenClaim := { program := "ytjfmooiapddgaaa", sum := "3e1451c2f89163c8141021d7fe12ca5d754186a3fb5ada3dd68b37d992ed5d6c", func := "counterpane/counterpanelaw09.InvertRow", spec := "invertRow", unfollowed := true, recurses := true, apart := false, narrowed := true }
def InvertRowUptoSaid : Prop := invertRowUptoRow.holds Try.pinned (OpenSpec.upto invertRowSpec)

end Rows
end Go.Proofs.Ytjfmooiapddgaaa
