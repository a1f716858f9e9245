/-
  NARROWER THAN 'FOR EVERY INPUT', by the rows' own cells (each row's printed sentence says how): SeqTells: laid · SeqSwaps: laid · SeqLast: laid · SeqJoins: laid · SeqEmpty: laid · SeqUndone: laid.
  DERIVED. THE GIVEN ROWS OF THIS SEAT. 6 by the template 'for every input the law returns true; each argument reads behind the call as it read before'; 0 by the template 'total and deterministic' (their statements: YtpfkkpghgmmijaaGreatDoorTotals.lean).
  GIVEN WITH THE SEED: the statements are not yours to turn. If you find one false, say at which input.
  Laid BY PROGRAM, IN A SANDBOX (cutbox-rows.mjs): the forced cells as the released guide's own fill.sh prints them over the translation d4593cc2b7b140ba… (all of the seat's roots in one cut). By AI agents, Wed Nov 11 2026. No macro, syntax, notation, axiom, sorry.
-/
import Derived.Test.YtpfkkpghgmmijaaGreatDoorChecked
import GoSem.PinnedTables
import GoSem.Claim
import GoSem.ClaimJoined
import GoSem.ClaimMapViews
import Derived.JoinedTies
import Derived.KernelRfl
namespace Go.Proofs.YtpfkkpghgmmijaaGreatDoor
/- THE CELL 'sum', in the pinned program and in every row, IS THE sha256 OF THE DUMP (.gsa) THAT YtpfkkpghgmmijaaGreatDoorProg.lean LOADS. Nothing in Lean hashes anything: it is a label: what it is worth is what the hold of that sum in a sandbox is worth. -/
noncomputable def Tryz.pinned : Pinned := { name := "ytpfkkpghgmmijaagreatdoor", sum := "d4593cc2b7b140ba23bdc1cac9707b22e3dad377b389c0512e134aa4adf756c9", checked := Tryz.checked }
namespace Rows
def none {H : Type} : Left H := { results := [], args := [] }

/- WHAT THE LISTED PACKAGE-LEVEL VARIABLES READ AS WHEN THE CALL BEGINS. Each datum BY PROGRAM (the guide's laid-datum.mjs) off the statement by which the dump's own 'gosem.cut.vars' lays the variable. In a bare row this is a premise. The card (YtpfkkpghgmmijaaGreatDoorCards.lean) ties it to the program's text. -/
def laid_unicode_utf8_acceptRanges {H : Type} : DataW H := .agg [.agg [.lit (.int .u8 128), .lit (.int .u8 191)], .agg [.lit (.int .u8 160), .lit (.int .u8 191)], .agg [.lit (.int .u8 128), .lit (.int .u8 159)], .agg [.lit (.int .u8 144), .lit (.int .u8 191)], .agg [.lit (.int .u8 128), .lit (.int .u8 143)], .agg [.lit (.int .u8 0), .lit (.int .u8 0)], .agg [.lit (.int .u8 0), .lit (.int .u8 0)], .agg [.lit (.int .u8 0), .lit (.int .u8 0)], .agg [.lit (.int .u8 0), .lit (.int .u8 0)], .agg [.lit (.int .u8 0), .lit (.int .u8 0)], .agg [.lit (.int .u8 0), .lit (.int .u8 0)], .agg [.lit (.int .u8 0), .lit (.int .u8 0)], .agg [.lit (.int .u8 0), .lit (.int .u8 0)], .agg [.lit (.int .u8 0), .lit (.int .u8 0)], .agg [.lit (.int .u8 0), .lit (.int .u8 0)], .agg [.lit (.int .u8 0), .lit (.int .u8 0)]]
/-- One of Go's own tables, pinned by name: the form's constant. -/
def laid_unicode_utf8_first : DataW Unit := Go.Pinned.utf8First

/-- 'counterpanelaw11.SeqTells': WHATEVER THE INPUT: true; the input reads as it did. -/
def seqTellsSpec : ChangeSpec := { name := "seqTells", fn := fun _ => fun
  | [d1, d2, d3] => { results := [.lit (.bool true)], args := [d1, d2, d3] }
  | _ => none }
def seqTellsRow : OpenClaim := { program := "ytpfkkpghgmmijaagreatdoor", sum := "d4593cc2b7b140ba23bdc1cac9707b22e3dad377b389c0512e134aa4adf756c9", func := "counterpane/counterpanelaw11.SeqTells", spec := "seqTells", inPlace := ["internal/bytealg.IndexByteString", "internal/bytealg.IndexString", "internal/abi.NoEscape", "slices.overlaps[counterpane/api.Prim]"], unfollowed := true, recurses := true, named := ["internal/bytealg.MaxLen", "unicode/utf8.first", "unicode/utf8.acceptRanges"], apart := false, laid := [("unicode/utf8.acceptRanges", laid_unicode_utf8_acceptRanges), ("unicode/utf8.first", laid_unicode_utf8_first)] }
def SeqTellsSaid : Prop := seqTellsRow.holds Tryz.pinned (OpenSpec.ofChange seqTellsSpec)

/-- ITS FALSE NEIGHBOUR: 'it returns false'. Refute it at one input. -/
def seqTellsWrong : ChangeSpec := { name := "seqTells", fn := fun _ => fun
  | [d1, d2, d3] => { results := [.lit (.bool false)], args := [d1, d2, d3] }
  | _ => none }
def SeqTellsWrongFalsely : Prop := seqTellsRow.holds Tryz.pinned (OpenSpec.ofChange seqTellsWrong)

/-- 'counterpanelaw11.SeqSwaps': WHATEVER THE INPUT: true; the input reads as it did. -/
def seqSwapsSpec : ChangeSpec := { name := "seqSwaps", fn := fun _ => fun
  | [d1, d2, d3] => { results := [.lit (.bool true)], args := [d1, d2, d3] }
  | _ => none }
def seqSwapsRow : OpenClaim := { program := "ytpfkkpghgmmijaagreatdoor", sum := "d4593cc2b7b140ba23bdc1cac9707b22e3dad377b389c0512e134aa4adf756c9", func := "counterpane/counterpanelaw11.SeqSwaps", spec := "seqSwaps", inPlace := ["internal/bytealg.IndexByteString", "internal/bytealg.IndexString", "internal/abi.NoEscape", "slices.overlaps[counterpane/api.Prim]"], unfollowed := true, recurses := true, named := ["internal/bytealg.MaxLen", "unicode/utf8.first", "unicode/utf8.acceptRanges"], apart := false, laid := [("unicode/utf8.acceptRanges", laid_unicode_utf8_acceptRanges), ("unicode/utf8.first", laid_unicode_utf8_first)] }
def SeqSwapsSaid : Prop := seqSwapsRow.holds Tryz.pinned (OpenSpec.ofChange seqSwapsSpec)

/-- ITS FALSE NEIGHBOUR: 'it returns false'. Refute it at one input. -/
def seqSwapsWrong : ChangeSpec := { name := "seqSwaps", fn := fun _ => fun
  | [d1, d2, d3] => { results := [.lit (.bool false)], args := [d1, d2, d3] }
  | _ => none }
def SeqSwapsWrongFalsely : Prop := seqSwapsRow.holds Tryz.pinned (OpenSpec.ofChange seqSwapsWrong)

/-- 'counterpanelaw11.SeqLast': WHATEVER THE INPUT: true; the input reads as it did. -/
def seqLastSpec : ChangeSpec := { name := "seqLast", fn := fun _ => fun
  | [d1, d2, d3] => { results := [.lit (.bool true)], args := [d1, d2, d3] }
  | _ => none }
def seqLastRow : OpenClaim := { program := "ytpfkkpghgmmijaagreatdoor", sum := "d4593cc2b7b140ba23bdc1cac9707b22e3dad377b389c0512e134aa4adf756c9", func := "counterpane/counterpanelaw11.SeqLast", spec := "seqLast", inPlace := ["internal/bytealg.IndexByteString", "internal/bytealg.IndexString", "internal/abi.NoEscape", "slices.overlaps[counterpane/api.Prim]"], unfollowed := true, recurses := true, named := ["internal/bytealg.MaxLen", "unicode/utf8.first", "unicode/utf8.acceptRanges"], apart := false, laid := [("unicode/utf8.acceptRanges", laid_unicode_utf8_acceptRanges), ("unicode/utf8.first", laid_unicode_utf8_first)] }
def SeqLastSaid : Prop := seqLastRow.holds Tryz.pinned (OpenSpec.ofChange seqLastSpec)

/-- ITS FALSE NEIGHBOUR: 'it returns false'. Refute it at one input. -/
def seqLastWrong : ChangeSpec := { name := "seqLast", fn := fun _ => fun
  | [d1, d2, d3] => { results := [.lit (.bool false)], args := [d1, d2, d3] }
  | _ => none }
def SeqLastWrongFalsely : Prop := seqLastRow.holds Tryz.pinned (OpenSpec.ofChange seqLastWrong)

/-- 'counterpanelaw11.SeqJoins': WHATEVER THE INPUT: true; the input reads as it did. -/
def seqJoinsSpec : ChangeSpec := { name := "seqJoins", fn := fun _ => fun
  | [d1, d2] => { results := [.lit (.bool true)], args := [d1, d2] }
  | _ => none }
def seqJoinsRow : OpenClaim := { program := "ytpfkkpghgmmijaagreatdoor", sum := "d4593cc2b7b140ba23bdc1cac9707b22e3dad377b389c0512e134aa4adf756c9", func := "counterpane/counterpanelaw11.SeqJoins", spec := "seqJoins", inPlace := ["internal/bytealg.IndexByteString", "internal/bytealg.IndexString", "internal/abi.NoEscape", "slices.overlaps[counterpane/api.Prim]"], unfollowed := true, recurses := true, named := ["internal/bytealg.MaxLen", "unicode/utf8.first", "unicode/utf8.acceptRanges"], apart := false, laid := [("unicode/utf8.acceptRanges", laid_unicode_utf8_acceptRanges), ("unicode/utf8.first", laid_unicode_utf8_first)] }
def SeqJoinsSaid : Prop := seqJoinsRow.holds Tryz.pinned (OpenSpec.ofChange seqJoinsSpec)

/-- ITS FALSE NEIGHBOUR: 'it returns false'. Refute it at one input. -/
def seqJoinsWrong : ChangeSpec := { name := "seqJoins", fn := fun _ => fun
  | [d1, d2] => { results := [.lit (.bool false)], args := [d1, d2] }
  | _ => none }
def SeqJoinsWrongFalsely : Prop := seqJoinsRow.holds Tryz.pinned (OpenSpec.ofChange seqJoinsWrong)

/-- 'counterpanelaw11.SeqEmpty': WHATEVER THE INPUT: true; the input reads as it did. -/
def seqEmptySpec : ChangeSpec := { name := "seqEmpty", fn := fun _ => fun
  | [d1, d2, d3] => { results := [.lit (.bool true)], args := [d1, d2, d3] }
  | _ => none }
def seqEmptyRow : OpenClaim := { program := "ytpfkkpghgmmijaagreatdoor", sum := "d4593cc2b7b140ba23bdc1cac9707b22e3dad377b389c0512e134aa4adf756c9", func := "counterpane/counterpanelaw11.SeqEmpty", spec := "seqEmpty", inPlace := ["internal/bytealg.IndexByteString", "internal/bytealg.IndexString", "internal/abi.NoEscape", "slices.overlaps[counterpane/api.Prim]"], unfollowed := true, recurses := true, named := ["internal/bytealg.MaxLen", "unicode/utf8.first", "unicode/utf8.acceptRanges"], apart := false, laid := [("unicode/utf8.acceptRanges", laid_unicode_utf8_acceptRanges), ("unicode/utf8.first", laid_unicode_utf8_first)] }
def SeqEmptySaid : Prop := seqEmptyRow.holds Tryz.pinned (OpenSpec.ofChange seqEmptySpec)

/-- ITS FALSE NEIGHBOUR: 'it returns false'. Refute it at one input. -/
def seqEmptyWrong : ChangeSpec := { name := "seqEmpty", fn := fun _ => fun
  | [d1, d2, d3] => { results := [.lit (.bool false)], args := [d1, d2, d3] }
  | _ => none }
def SeqEmptyWrongFalsely : Prop := seqEmptyRow.holds Tryz.pinned (OpenSpec.ofChange seqEmptyWrong)

/-- 'counterpanelaw11.SeqUndone': WHATEVER THE INPUT: true; the input reads as it did. -/
def seqUndoneSpec : ChangeSpec := { name := "seqUndone", fn := fun _ => fun
  | [d] => { results := [.lit (.bool true)], args := [d] }
  | _ => none }
def seqUndoneRow : OpenClaim := { program := "ytpfkkpghgmmijaagreatdoor", sum := "d4593cc2b7b140ba23bdc1cac9707b22e3dad377b389c0512e134aa4adf756c9", func := "counterpane/counterpanelaw11.SeqUndone", spec := "seqUndone", inPlace := ["internal/bytealg.IndexByteString", "internal/bytealg.IndexString", "internal/abi.NoEscape", "slices.overlaps[counterpane/api.Prim]"], unfollowed := true, recurses := true, named := ["internal/bytealg.MaxLen", "unicode/utf8.first", "unicode/utf8.acceptRanges"], apart := false, laid := [("unicode/utf8.acceptRanges", laid_unicode_utf8_acceptRanges), ("unicode/utf8.first", laid_unicode_utf8_first)] }
def SeqUndoneSaid : Prop := seqUndoneRow.holds Tryz.pinned (OpenSpec.ofChange seqUndoneSpec)

/-- ITS FALSE NEIGHBOUR: 'it returns false'. Refute it at one input. -/
def seqUndoneWrong : ChangeSpec := { name := "seqUndone", fn := fun _ => fun
  | [d] => { results := [.lit (.bool false)], args := [d] }
  | _ => none }
def SeqUndoneWrongFalsely : Prop := seqUndoneRow.holds Tryz.pinned (OpenSpec.ofChange seqUndoneWrong)

/- THE SECOND FORM. 'bulk': how many values and letters a reading holds, each counted each time it is reached (what is shared counts as often as it is met; a slice's spare places count too). A statement '..UptoSaid' is the law's where the arguments, and the package variables that the reading takes, are together of bulk at most 1048576: NARROWER than '..Said'. Prove '..Said' where nothing that the law and all that it calls make is longer than what came in: it says more and counts as full. Else prove '..UptoSaid'. A law counts once. -/
mutual
def uptoBulk {H : Type} : DataW H → Nat
  | .lit (.string bytes) => bytes.length + 1
  | .lit _ => 1
  | .nil => 1
  | .ptr d => uptoBulk d + 1
  | .slice elems spare => uptoBulkAll elems + uptoBulkAll spare + 1
  | .agg parts => uptoBulkAll parts + 1
  | .iface _ d => uptoBulk d + 1
  | .map entries => uptoBulkEntries entries + 1
  | .held _ => 1
def uptoBulkAll {H : Type} : List (DataW H) → Nat
  | [] => 0
  | d :: r => uptoBulk d + uptoBulkAll r
def uptoBulkEntries {H : Type} : List (Lit × DataW H) → Nat
  | [] => 0
  | x :: r => uptoBulkEntry x + uptoBulkEntries r
def uptoBulkEntry {H : Type} : Lit × DataW H → Nat
  | (.string bytes, d) => bytes.length + uptoBulk d + 1
  | (_, d) => uptoBulk d + 1
 end
def uptoSmall : (H : Type) → List (DataW H) → Bool := fun _ ds => decide (uptoBulkAll ds ≤ 1048576)
def OpenSpec.upto (s : _root_.Go.ChangeSpec) : _root_.Go.OpenSpec := { _root_.Go.OpenSpec.ofChange s with cond := some uptoSmall }

/-- 'counterpanelaw11.SeqTells', WHERE WHAT IT READS IS OF BULK AT MOST 1048576: true; the input reads as it did. -/
def seqTellsUptoRow : OpenClaim := { program := "ytpfkkpghgmmijaagreatdoor", sum := "d4593cc2b7b140ba23bdc1cac9707b22e3dad377b389c0512e134aa4adf756c9", func := "counterpane/counterpanelaw11.SeqTells", spec := "seqTells", inPlace := ["internal/bytealg.IndexByteString", "internal/bytealg.IndexString", "internal/abi.NoEscape", "slices.overlaps[counterpane/api.Prim]"], unfollowed := true, recurses := true, named := ["internal/bytealg.MaxLen", "unicode/utf8.first", "unicode/utf8.acceptRanges"], apart := false, laid := [("unicode/utf8.acceptRanges", laid_unicode_utf8_acceptRanges), ("unicode/utf8.first", laid_unicode_utf8_first)], narrowed := true }
def SeqTellsUptoSaid : Prop := seqTellsUptoRow.holds Tryz.pinned (OpenSpec.upto seqTellsSpec)

/-- 'counterpanelaw11.SeqSwaps', WHERE WHAT IT READS IS OF BULK AT MOST 1048576: true; the input reads as it did. -/
def seqSwapsUptoRow : OpenClaim := { program := "ytpfkkpghgmmijaagreatdoor", sum := "d4593cc2b7b140ba23bdc1cac9707b22e3dad377b389c0512e134aa4adf756c9", func := "counterpane/counterpanelaw11.SeqSwaps", spec := "seqSwaps", inPlace := ["internal/bytealg.IndexByteString", "internal/bytealg.IndexString", "internal/abi.NoEscape", "slices.overlaps[counterpane/api.Prim]"], unfollowed := true, recurses := true, named := ["internal/bytealg.MaxLen", "unicode/utf8.first", "unicode/utf8.acceptRanges"], apart := false, laid := [("unicode/utf8.acceptRanges", laid_unicode_utf8_acceptRanges), ("unicode/utf8.first", laid_unicode_utf8_first)], narrowed := true }
def SeqSwapsUptoSaid : Prop := seqSwapsUptoRow.holds Tryz.pinned (OpenSpec.upto seqSwapsSpec)

/-- 'counterpanelaw11.SeqLast', WHERE WHAT IT READS IS OF BULK AT MOST 1048576: true; the input reads as it did. -/
def seqLastUptoRow : OpenClaim := { program := "ytpfkkpghgmmijaagreatdoor", sum := "d4593cc2b7b140ba23bdc1cac9707b22e3dad377b389c0512e134aa4adf756c9", func := "counterpane/counterpanelaw11.SeqLast", spec := "seqLast", inPlace := ["internal/bytealg.IndexByteString", "internal/bytealg.IndexString", "internal/abi.NoEscape", "slices.overlaps[counterpane/api.Prim]"], unfollowed := true, recurses := true, named := ["internal/bytealg.MaxLen", "unicode/utf8.first", "unicode/utf8.acceptRanges"], apart := false, laid := [("unicode/utf8.acceptRanges", laid_unicode_utf8_acceptRanges), ("unicode/utf8.first", laid_unicode_utf8_first)], narrowed := true }
def SeqLastUptoSaid : Prop := seqLastUptoRow.holds Tryz.pinned (OpenSpec.upto seqLastSpec)

/-- 'counterpanelaw11.SeqJoins', WHERE WHAT IT READS IS OF BULK AT MOST 1048576: true; the input reads as it did. -/
def seqJoinsUptoRow : OpenClaim := { program := "ytpfkkpghgmmijaagreatdoor", sum := "d4593cc2b7b140ba23bdc1cac9707b22e3dad377b389c0512e134aa4adf756c9", func := "counterpane/counterpanelaw11.SeqJoins", spec := "seqJoins", inPlace := ["internal/bytealg.IndexByteString", "internal/bytealg.IndexString", "internal/abi.NoEscape", "slices.overlaps[counterpane/api.Prim]"], unfollowed := true, recurses := true, named := ["internal/bytealg.MaxLen", "unicode/utf8.first", "unicode/utf8.acceptRanges"], apart := false, laid := [("unicode/utf8.acceptRanges", laid_unicode_utf8_acceptRanges), ("unicode/utf8.first", laid_unicode_utf8_first)], narrowed := true }
def SeqJoinsUptoSaid : Prop := seqJoinsUptoRow.holds Tryz.pinned (OpenSpec.upto seqJoinsSpec)

/-- 'counterpanelaw11.SeqEmpty', WHERE WHAT IT READS IS OF BULK AT MOST 1048576: true; the input reads as it did. -/
def seqEmptyUptoRow : OpenClaim := { program := "ytpfkkpghgmmijaagreatdoor", sum := "d4593cc2b7b140ba23bdc1cac9707b22e3dad377b389c0512e134aa4adf756c9", func := "counterpane/counterpanelaw11.SeqEmpty", spec := "seqEmpty", inPlace := ["internal/bytealg.IndexByteString", "internal/bytealg.IndexString", "internal/abi.NoEscape", "slices.overlaps[counterpane/api.Prim]"], unfollowed := true, recurses := true, named := ["internal/bytealg.MaxLen", "unicode/utf8.first", "unicode/utf8.acceptRanges"], apart := false, laid := [("unicode/utf8.acceptRanges", laid_unicode_utf8_acceptRanges), ("unicode/utf8.first", laid_unicode_utf8_first)], narrowed := true }
def SeqEmptyUptoSaid : Prop := seqEmptyUptoRow.holds Tryz.pinned (OpenSpec.upto seqEmptySpec)

/-- 'counterpanelaw11.SeqUndone', WHERE WHAT IT READS IS OF BULK AT MOST 1048576: true; the input reads as it did. -/
def seqUndoneUptoRow : OpenClaim := { program := "ytpfkkpghgmmijaagreatdoor", sum := "d4593cc2b7b140ba23bdc1cac9707b22e3dad377b389c0512e134aa4adf756c9", func := "counterpane/counterpanelaw11.SeqUndone", spec := "seqUndone", inPlace := ["internal/bytealg.IndexByteString", "internal/bytealg.IndexString", "internal/abi.NoEscape", "slices.overlaps[counterpane/api.Prim]"], unfollowed := true, recurses := true, named := ["internal/bytealg.MaxLen", "unicode/utf8.first", "unicode/utf8.acceptRanges"], apart := false, laid := [("unicode/utf8.acceptRanges", laid_unicode_utf8_acceptRanges), ("unicode/utf8.first", laid_unicode_utf8_first)], narrowed := true }
def SeqUndoneUptoSaid : Prop := seqUndoneUptoRow.holds Tryz.pinned (OpenSpec.upto seqUndoneSpec)

end Rows
end Go.Proofs.YtpfkkpghgmmijaaGreatDoor
