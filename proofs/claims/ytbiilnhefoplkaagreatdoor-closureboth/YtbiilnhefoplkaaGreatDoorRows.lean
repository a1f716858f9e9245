/-
  NARROWER THAN 'FOR EVERY INPUT', by the rows' own cells (each row's printed sentence says how): ClosureTells: laid · ClosureClosed: laid · ClosureBoth: laid · ClosureMore: laid.
  DERIVED. THE GIVEN ROWS OF THIS SEAT. 4 by the template 'for every input the law returns true; each argument reads behind the call as it read before'; 0 by the template 'total and deterministic' (their statements: YtbiilnhefoplkaaGreatDoorTotals.lean).
  GIVEN WITH THE SEED: the statements are not yours to turn. If you find one false, say at which input.
  Laid BY PROGRAM, IN A SANDBOX (cutbox-rows.mjs): the forced cells as the released guide's own fill.sh prints them over the translation 8bacef95c2eb62c0… (all of the seat's roots in one cut). By AI agents, Wed Nov 11 2026. No macro, syntax, notation, axiom, sorry.
-/
import Derived.Test.YtbiilnhefoplkaaGreatDoorChecked
import GoSem.PinnedTables
import GoSem.Claim
import GoSem.ClaimJoined
import GoSem.ClaimMapViews
import Derived.JoinedTies
import Derived.KernelRfl
namespace Go.Proofs.YtbiilnhefoplkaaGreatDoor
/- THE CELL 'sum', in the pinned program and in every row, IS THE sha256 OF THE DUMP (.gsa) THAT YtbiilnhefoplkaaGreatDoorProg.lean LOADS. Nothing in Lean hashes anything: it is a label: what it is worth is what the hold of that sum in a sandbox is worth. -/
noncomputable def Tryz.pinned : Pinned := { name := "ytbiilnhefoplkaagreatdoor", sum := "8bacef95c2eb62c0cee830d66d3b84d20bd943d3280359e5c1b5b3cf27c45c2a", checked := Tryz.checked }
namespace Rows
def none {H : Type} : Left H := { results := [], args := [] }

/- WHAT THE LISTED PACKAGE-LEVEL VARIABLES READ AS WHEN THE CALL BEGINS. Each datum BY PROGRAM (the guide's laid-datum.mjs) off the statement by which the dump's own 'gosem.cut.vars' lays the variable. In a bare row this is a premise. The card (YtbiilnhefoplkaaGreatDoorCards.lean) ties it to the program's text. -/
/-- One of Go's own tables, pinned by name: the form's constant. -/
def laid_unicode_utf8_first : DataW Unit := Go.Pinned.utf8First
def laid_unicode_utf8_acceptRanges {H : Type} : DataW H := .agg [.agg [.lit (.int .u8 128), .lit (.int .u8 191)], .agg [.lit (.int .u8 160), .lit (.int .u8 191)], .agg [.lit (.int .u8 128), .lit (.int .u8 159)], .agg [.lit (.int .u8 144), .lit (.int .u8 191)], .agg [.lit (.int .u8 128), .lit (.int .u8 143)], .agg [.lit (.int .u8 0), .lit (.int .u8 0)], .agg [.lit (.int .u8 0), .lit (.int .u8 0)], .agg [.lit (.int .u8 0), .lit (.int .u8 0)], .agg [.lit (.int .u8 0), .lit (.int .u8 0)], .agg [.lit (.int .u8 0), .lit (.int .u8 0)], .agg [.lit (.int .u8 0), .lit (.int .u8 0)], .agg [.lit (.int .u8 0), .lit (.int .u8 0)], .agg [.lit (.int .u8 0), .lit (.int .u8 0)], .agg [.lit (.int .u8 0), .lit (.int .u8 0)], .agg [.lit (.int .u8 0), .lit (.int .u8 0)], .agg [.lit (.int .u8 0), .lit (.int .u8 0)]]

/-- 'counterpanelaw14.ClosureTells': WHATEVER THE INPUT: true; the input reads as it did. -/
def closureTellsSpec : ChangeSpec := { name := "closureTells", fn := fun _ => fun
  | [d1, d2] => { results := [.lit (.bool true)], args := [d1, d2] }
  | _ => none }
def closureTellsRow : OpenClaim := { program := "ytbiilnhefoplkaagreatdoor", sum := "8bacef95c2eb62c0cee830d66d3b84d20bd943d3280359e5c1b5b3cf27c45c2a", func := "counterpane/counterpanelaw14.ClosureTells", spec := "closureTells", inPlace := ["internal/bytealg.IndexByteString", "internal/bytealg.IndexString", "internal/abi.NoEscape"], unfollowed := true, recurses := true, named := ["unicode/utf8.first", "unicode/utf8.acceptRanges", "internal/bytealg.MaxLen"], apart := false, laid := [("unicode/utf8.first", laid_unicode_utf8_first), ("unicode/utf8.acceptRanges", laid_unicode_utf8_acceptRanges)] }
def ClosureTellsSaid : Prop := closureTellsRow.holds Tryz.pinned (OpenSpec.ofChange closureTellsSpec)

/-- ITS FALSE NEIGHBOUR: 'it returns false'. Refute it at one input. -/
def closureTellsWrong : ChangeSpec := { name := "closureTells", fn := fun _ => fun
  | [d1, d2] => { results := [.lit (.bool false)], args := [d1, d2] }
  | _ => none }
def ClosureTellsWrongFalsely : Prop := closureTellsRow.holds Tryz.pinned (OpenSpec.ofChange closureTellsWrong)

/-- 'counterpanelaw14.ClosureClosed': WHATEVER THE INPUT: true; the input reads as it did. -/
def closureClosedSpec : ChangeSpec := { name := "closureClosed", fn := fun _ => fun
  | [d1, d2] => { results := [.lit (.bool true)], args := [d1, d2] }
  | _ => none }
def closureClosedRow : OpenClaim := { program := "ytbiilnhefoplkaagreatdoor", sum := "8bacef95c2eb62c0cee830d66d3b84d20bd943d3280359e5c1b5b3cf27c45c2a", func := "counterpane/counterpanelaw14.ClosureClosed", spec := "closureClosed", inPlace := ["internal/bytealg.IndexByteString", "internal/bytealg.IndexString", "internal/abi.NoEscape"], unfollowed := true, recurses := true, named := ["unicode/utf8.first", "unicode/utf8.acceptRanges", "internal/bytealg.MaxLen"], apart := false, laid := [("unicode/utf8.first", laid_unicode_utf8_first), ("unicode/utf8.acceptRanges", laid_unicode_utf8_acceptRanges)] }
def ClosureClosedSaid : Prop := closureClosedRow.holds Tryz.pinned (OpenSpec.ofChange closureClosedSpec)

/-- ITS FALSE NEIGHBOUR: 'it returns false'. Refute it at one input. -/
def closureClosedWrong : ChangeSpec := { name := "closureClosed", fn := fun _ => fun
  | [d1, d2] => { results := [.lit (.bool false)], args := [d1, d2] }
  | _ => none }
def ClosureClosedWrongFalsely : Prop := closureClosedRow.holds Tryz.pinned (OpenSpec.ofChange closureClosedWrong)

/-- 'counterpanelaw14.ClosureBoth': WHATEVER THE INPUT: true; the input reads as it did. -/
def closureBothSpec : ChangeSpec := { name := "closureBoth", fn := fun _ => fun
  | [d1, d2, d3] => { results := [.lit (.bool true)], args := [d1, d2, d3] }
  | _ => none }
def closureBothRow : OpenClaim := { program := "ytbiilnhefoplkaagreatdoor", sum := "8bacef95c2eb62c0cee830d66d3b84d20bd943d3280359e5c1b5b3cf27c45c2a", func := "counterpane/counterpanelaw14.ClosureBoth", spec := "closureBoth", inPlace := ["internal/bytealg.IndexByteString", "internal/bytealg.IndexString", "internal/abi.NoEscape"], unfollowed := true, recurses := true, named := ["unicode/utf8.first", "unicode/utf8.acceptRanges", "internal/bytealg.MaxLen"], apart := false, laid := [("unicode/utf8.first", laid_unicode_utf8_first), ("unicode/utf8.acceptRanges", laid_unicode_utf8_acceptRanges)] }
def ClosureBothSaid : Prop := closureBothRow.holds Tryz.pinned (OpenSpec.ofChange closureBothSpec)

/-- ITS FALSE NEIGHBOUR: 'it returns false'. Refute it at one input. -/
def closureBothWrong : ChangeSpec := { name := "closureBoth", fn := fun _ => fun
  | [d1, d2, d3] => { results := [.lit (.bool false)], args := [d1, d2, d3] }
  | _ => none }
def ClosureBothWrongFalsely : Prop := closureBothRow.holds Tryz.pinned (OpenSpec.ofChange closureBothWrong)

/-- 'counterpanelaw14.ClosureMore': WHATEVER THE INPUT: true; the input reads as it did. -/
def closureMoreSpec : ChangeSpec := { name := "closureMore", fn := fun _ => fun
  | [d1, d2, d3] => { results := [.lit (.bool true)], args := [d1, d2, d3] }
  | _ => none }
def closureMoreRow : OpenClaim := { program := "ytbiilnhefoplkaagreatdoor", sum := "8bacef95c2eb62c0cee830d66d3b84d20bd943d3280359e5c1b5b3cf27c45c2a", func := "counterpane/counterpanelaw14.ClosureMore", spec := "closureMore", inPlace := ["internal/bytealg.IndexByteString", "internal/bytealg.IndexString", "internal/abi.NoEscape"], unfollowed := true, recurses := true, named := ["unicode/utf8.first", "unicode/utf8.acceptRanges", "internal/bytealg.MaxLen"], apart := false, laid := [("unicode/utf8.first", laid_unicode_utf8_first), ("unicode/utf8.acceptRanges", laid_unicode_utf8_acceptRanges)] }
def ClosureMoreSaid : Prop := closureMoreRow.holds Tryz.pinned (OpenSpec.ofChange closureMoreSpec)

/-- ITS FALSE NEIGHBOUR: 'it returns false'. Refute it at one input. -/
def closureMoreWrong : ChangeSpec := { name := "closureMore", fn := fun _ => fun
  | [d1, d2, d3] => { results := [.lit (.bool false)], args := [d1, d2, d3] }
  | _ => none }
def ClosureMoreWrongFalsely : Prop := closureMoreRow.holds Tryz.pinned (OpenSpec.ofChange closureMoreWrong)

/- THE SECOND FORM. 'bulk': how many values and letters a reading holds, each counted each time it is reached (what is shared counts as often as it is met; a slice's spare places count too). A statement '..UptoSaid' is the law's where the arguments, and the package variables that the reading takes, are together of bulk at most 1048576: NARROWER than '..Said'. Prove '..Said' where nothing that the law and all that it calls make is longer than what came in: it says more and counts as full. Else prove '..UptoSaid'. A law counts once. -/
mutual
def uptoBulk {H : Type} : DataW H → Nat
  | .lit (.string bytes) => bytes.length + 1
  | .lit _ => 1
  | .nil => 1
  | .ptr d => uptoBulk d + 1
  | .slice elems spare => uptoBulkAll elems + uptoBulkAll spare + 1
  | .agg parts => uptoBulkAll parts + 1
  | .iface _ d => uptoBulk d + 1
  | .map entries => uptoBulkEntries entries + 1
  | .held _ => 1
def uptoBulkAll {H : Type} : List (DataW H) → Nat
  | [] => 0
  | d :: r => uptoBulk d + uptoBulkAll r
def uptoBulkEntries {H : Type} : List (Lit × DataW H) → Nat
  | [] => 0
  | x :: r => uptoBulkEntry x + uptoBulkEntries r
def uptoBulkEntry {H : Type} : Lit × DataW H → Nat
  | (.string bytes, d) => bytes.length + uptoBulk d + 1
  | (_, d) => uptoBulk d + 1
 end
def uptoSmall : (H : Type) → List (DataW H) → Bool := fun _ ds => decide (uptoBulkAll ds ≤ 1048576)
def OpenSpec.upto (s : _root_.Go.ChangeSpec) : _root_.Go.OpenSpec := { _root_.Go.OpenSpec.ofChange s with cond := some uptoSmall }

/-- 'counterpanelaw14.ClosureTells', WHERE WHAT IT READS IS OF BULK AT MOST 1048576: true; the input reads as it did. -/
def closureTellsUptoRow : OpenClaim := { program := "ytbiilnhefoplkaagreatdoor", sum := "8bacef95c2eb62c0cee830d66d3b84d20bd943d3280359e5c1b5b3cf27c45c2a", func := "counterpane/counterpanelaw14.ClosureTells", spec := "closureTells", inPlace := ["internal/bytealg.IndexByteString", "internal/bytealg.IndexString", "internal/abi.NoEscape"], unfollowed := true, recurses := true, named := ["unicode/utf8.first", "unicode/utf8.acceptRanges", "internal/bytealg.MaxLen"], apart := false, laid := [("unicode/utf8.first", laid_unicode_utf8_first), ("unicode/utf8.acceptRanges", laid_unicode_utf8_acceptRanges)], narrowed := true }
def ClosureTellsUptoSaid : Prop := closureTellsUptoRow.holds Tryz.pinned (OpenSpec.upto closureTellsSpec)

/-- 'counterpanelaw14.ClosureClosed', WHERE WHAT IT READS IS OF BULK AT MOST 1048576: true; the input reads as it did. -/
def closureClosedUptoRow : OpenClaim := { program := "ytbiilnhefoplkaagreatdoor", sum := "8bacef95c2eb62c0cee830d66d3b84d20bd943d3280359e5c1b5b3cf27c45c2a", func := "counterpane/counterpanelaw14.ClosureClosed", spec := "closureClosed", inPlace := ["internal/bytealg.IndexByteString", "internal/bytealg.IndexString", "internal/abi.NoEscape"], unfollowed := true, recurses := true, named := ["unicode/utf8.first", "unicode/utf8.acceptRanges", "internal/bytealg.MaxLen"], apart := false, laid := [("unicode/utf8.first", laid_unicode_utf8_first), ("unicode/utf8.acceptRanges", laid_unicode_utf8_acceptRanges)], narrowed := true }
def ClosureClosedUptoSaid : Prop := closureClosedUptoRow.holds Tryz.pinned (OpenSpec.upto closureClosedSpec)

/-- 'counterpanelaw14.ClosureBoth', WHERE WHAT IT READS IS OF BULK AT MOST 1048576: true; the input reads as it did. -/
def closureBothUptoRow : OpenClaim := { program := "ytbiilnhefoplkaagreatdoor", sum := "8bacef95c2eb62c0cee830d66d3b84d20bd943d3280359e5c1b5b3cf27c45c2a", func := "counterpane/counterpanelaw14.ClosureBoth", spec := "closureBoth", inPlace := ["internal/bytealg.IndexByteString", "internal/bytealg.IndexString", "internal/abi.NoEscape"], unfollowed := true, recurses := true, named := ["unicode/utf8.first", "unicode/utf8.acceptRanges", "internal/bytealg.MaxLen"], apart := false, laid := [("unicode/utf8.first", laid_unicode_utf8_first), ("unicode/utf8.acceptRanges", laid_unicode_utf8_acceptRanges)], narrowed := true }
def ClosureBothUptoSaid : Prop := closureBothUptoRow.holds Tryz.pinned (OpenSpec.upto closureBothSpec)

/-- 'counterpanelaw14.ClosureMore', WHERE WHAT IT READS IS OF BULK AT MOST 1048576: true; the input reads as it did. -/
def closureMoreUptoRow : OpenClaim := { program := "ytbiilnhefoplkaagreatdoor", sum := "8bacef95c2eb62c0cee830d66d3b84d20bd943d3280359e5c1b5b3cf27c45c2a", func := "counterpane/counterpanelaw14.ClosureMore", spec := "closureMore", inPlace := ["internal/bytealg.IndexByteString", "internal/bytealg.IndexString", "internal/abi.NoEscape"], unfollowed := true, recurses := true, named := ["unicode/utf8.first", "unicode/utf8.acceptRanges", "internal/bytealg.MaxLen"], apart := false, laid := [("unicode/utf8.first", laid_unicode_utf8_first), ("unicode/utf8.acceptRanges", laid_unicode_utf8_acceptRanges)], narrowed := true }
def ClosureMoreUptoSaid : Prop := closureMoreUptoRow.holds Tryz.pinned (OpenSpec.upto closureMoreSpec)

end Rows
end Go.Proofs.YtbiilnhefoplkaaGreatDoor
