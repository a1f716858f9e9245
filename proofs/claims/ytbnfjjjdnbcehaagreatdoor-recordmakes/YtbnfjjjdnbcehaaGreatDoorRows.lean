/-
  NARROWER THAN 'FOR EVERY INPUT', by the rows' own cells (each row's printed sentence says how): SeqTells: laid · RecordMakes: laid · RecordRight: laid · RecordSteps: laid · RecordEmpty: laid.
  DERIVED. THE GIVEN ROWS OF THIS SEAT. 5 by the template 'for every input the law returns true; each argument reads behind the call as it read before'; 0 by the template 'total and deterministic' (their statements: YtbnfjjjdnbcehaaGreatDoorTotals.lean).
  GIVEN WITH THE SEED: the statements are not yours to turn. If you find one false, say at which input.
  Laid BY PROGRAM, IN A SANDBOX (cutbox-rows.mjs): the forced cells as the released guide's own fill.sh prints them over the translation 060581feaba6286d… (all of the seat's roots in one cut). By AI agents, Wed Nov 11 2026. No macro, syntax, notation, axiom, sorry.
-/
import Derived.Test.YtbnfjjjdnbcehaaGreatDoorChecked
import GoSem.PinnedTables
import GoSem.Claim
import GoSem.ClaimJoined
import GoSem.ClaimMapViews
import Derived.JoinedTies
import Derived.KernelRfl
namespace Go.Proofs.YtbnfjjjdnbcehaaGreatDoor
/- THE CELL 'sum', in the pinned program and in every row, IS THE sha256 OF THE DUMP (.gsa) THAT YtbnfjjjdnbcehaaGreatDoorProg.lean LOADS. Nothing in Lean hashes anything: it is a label: what it is worth is what the hold of that sum in a sandbox is worth. -/
noncomputable def Tryz.pinned : Pinned := { name := "ytbnfjjjdnbcehaagreatdoor", sum := "060581feaba6286dd715c9a745b477f80bac00f3f80c8dd8ae2776cb788cb0ea", checked := Tryz.checked }
namespace Rows
def none {H : Type} : Left H := { results := [], args := [] }

/- WHAT THE LISTED PACKAGE-LEVEL VARIABLES READ AS WHEN THE CALL BEGINS. Each datum BY PROGRAM (the guide's laid-datum.mjs) off the statement by which the dump's own 'gosem.cut.vars' lays the variable. In a bare row this is a premise. The card (YtbnfjjjdnbcehaaGreatDoorCards.lean) ties it to the program's text. -/
def laid_unicode_utf8_acceptRanges {H : Type} : DataW H := .agg [.agg [.lit (.int .u8 128), .lit (.int .u8 191)], .agg [.lit (.int .u8 160), .lit (.int .u8 191)], .agg [.lit (.int .u8 128), .lit (.int .u8 159)], .agg [.lit (.int .u8 144), .lit (.int .u8 191)], .agg [.lit (.int .u8 128), .lit (.int .u8 143)], .agg [.lit (.int .u8 0), .lit (.int .u8 0)], .agg [.lit (.int .u8 0), .lit (.int .u8 0)], .agg [.lit (.int .u8 0), .lit (.int .u8 0)], .agg [.lit (.int .u8 0), .lit (.int .u8 0)], .agg [.lit (.int .u8 0), .lit (.int .u8 0)], .agg [.lit (.int .u8 0), .lit (.int .u8 0)], .agg [.lit (.int .u8 0), .lit (.int .u8 0)], .agg [.lit (.int .u8 0), .lit (.int .u8 0)], .agg [.lit (.int .u8 0), .lit (.int .u8 0)], .agg [.lit (.int .u8 0), .lit (.int .u8 0)], .agg [.lit (.int .u8 0), .lit (.int .u8 0)]]
/-- One of Go's own tables, pinned by name: the form's constant. -/
def laid_unicode_utf8_first : DataW Unit := Go.Pinned.utf8First
def laid_counterpane_record_adds {H : Type} : DataW H := .agg [.lit (.int .i64 0), .lit (.int .i64 1), .lit (.int .i64 3), .lit (.int .i64 5)]
def laid_counterpane_record_removes {H : Type} : DataW H := .agg [.lit (.int .i64 0), .lit (.int .i64 2), .lit (.int .i64 4), .lit (.int .i64 6)]

/-- 'counterpanelaw11.SeqTells': WHATEVER THE INPUT: true; the input reads as it did. -/
def seqTellsSpec : ChangeSpec := { name := "seqTells", fn := fun _ => fun
  | [d1, d2, d3] => { results := [.lit (.bool true)], args := [d1, d2, d3] }
  | _ => none }
def seqTellsRow : OpenClaim := { program := "ytbnfjjjdnbcehaagreatdoor", sum := "060581feaba6286dd715c9a745b477f80bac00f3f80c8dd8ae2776cb788cb0ea", func := "counterpane/counterpanelaw11.SeqTells", spec := "seqTells", inPlace := ["internal/bytealg.IndexByteString", "internal/bytealg.IndexString", "internal/abi.NoEscape", "slices.overlaps[counterpane/api.Prim]"], unfollowed := true, recurses := true, named := ["internal/bytealg.MaxLen", "unicode/utf8.first", "unicode/utf8.acceptRanges"], apart := false, laid := [("unicode/utf8.acceptRanges", laid_unicode_utf8_acceptRanges), ("unicode/utf8.first", laid_unicode_utf8_first)] }
def SeqTellsSaid : Prop := seqTellsRow.holds Tryz.pinned (OpenSpec.ofChange seqTellsSpec)

/-- ITS FALSE NEIGHBOUR: 'it returns false'. Refute it at one input. -/
def seqTellsWrong : ChangeSpec := { name := "seqTells", fn := fun _ => fun
  | [d1, d2, d3] => { results := [.lit (.bool false)], args := [d1, d2, d3] }
  | _ => none }
def SeqTellsWrongFalsely : Prop := seqTellsRow.holds Tryz.pinned (OpenSpec.ofChange seqTellsWrong)

/-- 'counterpanelaw12.RecordMakes': WHATEVER THE INPUT: true; the input reads as it did. -/
def recordMakesSpec : ChangeSpec := { name := "recordMakes", fn := fun _ => fun
  | [d1, d2] => { results := [.lit (.bool true)], args := [d1, d2] }
  | _ => none }
def recordMakesRow : OpenClaim := { program := "ytbnfjjjdnbcehaagreatdoor", sum := "060581feaba6286dd715c9a745b477f80bac00f3f80c8dd8ae2776cb788cb0ea", func := "counterpane/counterpanelaw12.RecordMakes", spec := "recordMakes", inPlace := ["internal/bytealg.IndexByteString", "internal/bytealg.IndexString", "math.sqrt", "math.Float64frombits", "internal/abi.NoEscape", "slices.overlaps[counterpane/api.Prim]"], unfollowed := true, recurses := true, named := ["counterpane/record.removes", "counterpane/record.adds", "unicode/utf8.first", "unicode/utf8.acceptRanges", "internal/bytealg.MaxLen"], apart := false, laid := [("unicode/utf8.acceptRanges", laid_unicode_utf8_acceptRanges), ("counterpane/record.adds", laid_counterpane_record_adds), ("counterpane/record.removes", laid_counterpane_record_removes), ("unicode/utf8.first", laid_unicode_utf8_first)] }
def RecordMakesSaid : Prop := recordMakesRow.holds Tryz.pinned (OpenSpec.ofChange recordMakesSpec)

/-- ITS FALSE NEIGHBOUR: 'it returns false'. Refute it at one input. -/
def recordMakesWrong : ChangeSpec := { name := "recordMakes", fn := fun _ => fun
  | [d1, d2] => { results := [.lit (.bool false)], args := [d1, d2] }
  | _ => none }
def RecordMakesWrongFalsely : Prop := recordMakesRow.holds Tryz.pinned (OpenSpec.ofChange recordMakesWrong)

/-- 'counterpanelaw12.RecordRight': WHATEVER THE INPUT: true; the input reads as it did. -/
def recordRightSpec : ChangeSpec := { name := "recordRight", fn := fun _ => fun
  | [d1, d2] => { results := [.lit (.bool true)], args := [d1, d2] }
  | _ => none }
def recordRightRow : OpenClaim := { program := "ytbnfjjjdnbcehaagreatdoor", sum := "060581feaba6286dd715c9a745b477f80bac00f3f80c8dd8ae2776cb788cb0ea", func := "counterpane/counterpanelaw12.RecordRight", spec := "recordRight", inPlace := ["internal/bytealg.IndexByteString", "internal/bytealg.IndexString", "math.sqrt", "math.Float64frombits", "internal/abi.NoEscape"], unfollowed := true, recurses := true, named := ["counterpane/record.removes", "counterpane/record.adds", "unicode/utf8.first", "unicode/utf8.acceptRanges", "internal/bytealg.MaxLen"], apart := false, laid := [("unicode/utf8.acceptRanges", laid_unicode_utf8_acceptRanges), ("counterpane/record.adds", laid_counterpane_record_adds), ("counterpane/record.removes", laid_counterpane_record_removes), ("unicode/utf8.first", laid_unicode_utf8_first)] }
def RecordRightSaid : Prop := recordRightRow.holds Tryz.pinned (OpenSpec.ofChange recordRightSpec)

/-- ITS FALSE NEIGHBOUR: 'it returns false'. Refute it at one input. -/
def recordRightWrong : ChangeSpec := { name := "recordRight", fn := fun _ => fun
  | [d1, d2] => { results := [.lit (.bool false)], args := [d1, d2] }
  | _ => none }
def RecordRightWrongFalsely : Prop := recordRightRow.holds Tryz.pinned (OpenSpec.ofChange recordRightWrong)

/-- 'counterpanelaw12.RecordSteps': WHATEVER THE INPUT: true; the input reads as it did. -/
def recordStepsSpec : ChangeSpec := { name := "recordSteps", fn := fun _ => fun
  | [d1, d2, d3] => { results := [.lit (.bool true)], args := [d1, d2, d3] }
  | _ => none }
def recordStepsRow : OpenClaim := { program := "ytbnfjjjdnbcehaagreatdoor", sum := "060581feaba6286dd715c9a745b477f80bac00f3f80c8dd8ae2776cb788cb0ea", func := "counterpane/counterpanelaw12.RecordSteps", spec := "recordSteps", inPlace := ["internal/bytealg.IndexByteString", "internal/bytealg.IndexString", "math.sqrt", "math.Float64frombits", "internal/abi.NoEscape"], unfollowed := true, recurses := true, named := ["counterpane/record.removes", "counterpane/record.adds", "unicode/utf8.first", "unicode/utf8.acceptRanges", "internal/bytealg.MaxLen"], apart := false, laid := [("unicode/utf8.acceptRanges", laid_unicode_utf8_acceptRanges), ("counterpane/record.adds", laid_counterpane_record_adds), ("counterpane/record.removes", laid_counterpane_record_removes), ("unicode/utf8.first", laid_unicode_utf8_first)] }
def RecordStepsSaid : Prop := recordStepsRow.holds Tryz.pinned (OpenSpec.ofChange recordStepsSpec)

/-- ITS FALSE NEIGHBOUR: 'it returns false'. Refute it at one input. -/
def recordStepsWrong : ChangeSpec := { name := "recordSteps", fn := fun _ => fun
  | [d1, d2, d3] => { results := [.lit (.bool false)], args := [d1, d2, d3] }
  | _ => none }
def RecordStepsWrongFalsely : Prop := recordStepsRow.holds Tryz.pinned (OpenSpec.ofChange recordStepsWrong)

/-- 'counterpanelaw12.RecordEmpty': WHATEVER THE INPUT: true; the input reads as it did. -/
def recordEmptySpec : ChangeSpec := { name := "recordEmpty", fn := fun _ => fun
  | [d] => { results := [.lit (.bool true)], args := [d] }
  | _ => none }
def recordEmptyRow : OpenClaim := { program := "ytbnfjjjdnbcehaagreatdoor", sum := "060581feaba6286dd715c9a745b477f80bac00f3f80c8dd8ae2776cb788cb0ea", func := "counterpane/counterpanelaw12.RecordEmpty", spec := "recordEmpty", inPlace := ["internal/bytealg.IndexByteString", "internal/bytealg.IndexString", "math.sqrt", "math.Float64frombits", "internal/abi.NoEscape"], unfollowed := true, recurses := true, named := ["counterpane/record.removes", "counterpane/record.adds", "unicode/utf8.first", "unicode/utf8.acceptRanges", "internal/bytealg.MaxLen"], apart := false, laid := [("unicode/utf8.acceptRanges", laid_unicode_utf8_acceptRanges), ("counterpane/record.adds", laid_counterpane_record_adds), ("counterpane/record.removes", laid_counterpane_record_removes), ("unicode/utf8.first", laid_unicode_utf8_first)] }
def RecordEmptySaid : Prop := recordEmptyRow.holds Tryz.pinned (OpenSpec.ofChange recordEmptySpec)

/-- ITS FALSE NEIGHBOUR: 'it returns false'. Refute it at one input. -/
def recordEmptyWrong : ChangeSpec := { name := "recordEmpty", fn := fun _ => fun
  | [d] => { results := [.lit (.bool false)], args := [d] }
  | _ => none }
def RecordEmptyWrongFalsely : Prop := recordEmptyRow.holds Tryz.pinned (OpenSpec.ofChange recordEmptyWrong)

/- THE SECOND FORM. 'bulk': how many values and letters a reading holds, each counted each time it is reached (what is shared counts as often as it is met; a slice's spare places count too). A statement '..UptoSaid' is the law's where the arguments, and the package variables that the reading takes, are together of bulk at most 1048576: NARROWER than '..Said'. Prove '..Said' where nothing that the law and all that it calls make is longer than what came in: it says more and counts as full. Else prove '..UptoSaid'. A law counts once. -/
mutual
def uptoBulk {H : Type} : DataW H → Nat
  | .lit (.string bytes) => bytes.length + 1
  | .lit _ => 1
  | .nil => 1
  | .ptr d => uptoBulk d + 1
  | .slice elems spare => uptoBulkAll elems + uptoBulkAll spare + 1
  | .agg parts => uptoBulkAll parts + 1
  | .iface _ d => uptoBulk d + 1
  | .map entries => uptoBulkEntries entries + 1
  | .held _ => 1
def uptoBulkAll {H : Type} : List (DataW H) → Nat
  | [] => 0
  | d :: r => uptoBulk d + uptoBulkAll r
def uptoBulkEntries {H : Type} : List (Lit × DataW H) → Nat
  | [] => 0
  | x :: r => uptoBulkEntry x + uptoBulkEntries r
def uptoBulkEntry {H : Type} : Lit × DataW H → Nat
  | (.string bytes, d) => bytes.length + uptoBulk d + 1
  | (_, d) => uptoBulk d + 1
 end
def uptoSmall : (H : Type) → List (DataW H) → Bool := fun _ ds => decide (uptoBulkAll ds ≤ 1048576)
def OpenSpec.upto (s : _root_.Go.ChangeSpec) : _root_.Go.OpenSpec := { _root_.Go.OpenSpec.ofChange s with cond := some uptoSmall }

/-- 'counterpanelaw11.SeqTells', WHERE WHAT IT READS IS OF BULK AT MOST 1048576: true; the input reads as it did. -/
def seqTellsUptoRow : OpenClaim := { program := "ytbnfjjjdnbcehaagreatdoor", sum := "060581feaba6286dd715c9a745b477f80bac00f3f80c8dd8ae2776cb788cb0ea", func := "counterpane/counterpanelaw11.SeqTells", spec := "seqTells", inPlace := ["internal/bytealg.IndexByteString", "internal/bytealg.IndexString", "internal/abi.NoEscape", "slices.overlaps[counterpane/api.Prim]"], unfollowed := true, recurses := true, named := ["internal/bytealg.MaxLen", "unicode/utf8.first", "unicode/utf8.acceptRanges"], apart := false, laid := [("unicode/utf8.acceptRanges", laid_unicode_utf8_acceptRanges), ("unicode/utf8.first", laid_unicode_utf8_first)], narrowed := true }
def SeqTellsUptoSaid : Prop := seqTellsUptoRow.holds Tryz.pinned (OpenSpec.upto seqTellsSpec)

/-- 'counterpanelaw12.RecordMakes', WHERE WHAT IT READS IS OF BULK AT MOST 1048576: true; the input reads as it did. -/
def recordMakesUptoRow : OpenClaim := { program := "ytbnfjjjdnbcehaagreatdoor", sum := "060581feaba6286dd715c9a745b477f80bac00f3f80c8dd8ae2776cb788cb0ea", func := "counterpane/counterpanelaw12.RecordMakes", spec := "recordMakes", inPlace := ["internal/bytealg.IndexByteString", "internal/bytealg.IndexString", "math.sqrt", "math.Float64frombits", "internal/abi.NoEscape", "slices.overlaps[counterpane/api.Prim]"], unfollowed := true, recurses := true, named := ["counterpane/record.removes", "counterpane/record.adds", "unicode/utf8.first", "unicode/utf8.acceptRanges", "internal/bytealg.MaxLen"], apart := false, laid := [("unicode/utf8.acceptRanges", laid_unicode_utf8_acceptRanges), ("counterpane/record.adds", laid_counterpane_record_adds), ("counterpane/record.removes", laid_counterpane_record_removes), ("unicode/utf8.first", laid_unicode_utf8_first)], narrowed := true }
def RecordMakesUptoSaid : Prop := recordMakesUptoRow.holds Tryz.pinned (OpenSpec.upto recordMakesSpec)

/-- 'counterpanelaw12.RecordRight', WHERE WHAT IT READS IS OF BULK AT MOST 1048576: true; the input reads as it did. -/
def recordRightUptoRow : OpenClaim := { program := "ytbnfjjjdnbcehaagreatdoor", sum := "060581feaba6286dd715c9a745b477f80bac00f3f80c8dd8ae2776cb788cb0ea", func := "counterpane/counterpanelaw12.RecordRight", spec := "recordRight", inPlace := ["internal/bytealg.IndexByteString", "internal/bytealg.IndexString", "math.sqrt", "math.Float64frombits", "internal/abi.NoEscape"], unfollowed := true, recurses := true, named := ["counterpane/record.removes", "counterpane/record.adds", "unicode/utf8.first", "unicode/utf8.acceptRanges", "internal/bytealg.MaxLen"], apart := false, laid := [("unicode/utf8.acceptRanges", laid_unicode_utf8_acceptRanges), ("counterpane/record.adds", laid_counterpane_record_adds), ("counterpane/record.removes", laid_counterpane_record_removes), ("unicode/utf8.first", laid_unicode_utf8_first)], narrowed := true }
def RecordRightUptoSaid : Prop := recordRightUptoRow.holds Tryz.pinned (OpenSpec.upto recordRightSpec)

/-- 'counterpanelaw12.RecordSteps', WHERE WHAT IT READS IS OF BULK AT MOST 1048576: true; the input reads as it did. -/
def recordStepsUptoRow : OpenClaim := { program := "ytbnfjjjdnbcehaagreatdoor", sum := "060581feaba6286dd715c9a745b477f80bac00f3f80c8dd8ae2776cb788cb0ea", func := "counterpane/counterpanelaw12.RecordSteps", spec := "recordSteps", inPlace := ["internal/bytealg.IndexByteString", "internal/bytealg.IndexString", "math.sqrt", "math.Float64frombits", "internal/abi.NoEscape"], unfollowed := true, recurses := true, named := ["counterpane/record.removes", "counterpane/record.adds", "unicode/utf8.first", "unicode/utf8.acceptRanges", "internal/bytealg.MaxLen"], apart := false, laid := [("unicode/utf8.acceptRanges", laid_unicode_utf8_acceptRanges), ("counterpane/record.adds", laid_counterpane_record_adds), ("counterpane/record.removes", laid_counterpane_record_removes), ("unicode/utf8.first", laid_unicode_utf8_first)], narrowed := true }
def RecordStepsUptoSaid : Prop := recordStepsUptoRow.holds Tryz.pinned (OpenSpec.upto recordStepsSpec)

/-- 'counterpanelaw12.RecordEmpty', WHERE WHAT IT READS IS OF BULK AT MOST 1048576: true; the input reads as it did. -/
def recordEmptyUptoRow : OpenClaim := { program := "ytbnfjjjdnbcehaagreatdoor", sum := "060581feaba6286dd715c9a745b477f80bac00f3f80c8dd8ae2776cb788cb0ea", func := "counterpane/counterpanelaw12.RecordEmpty", spec := "recordEmpty", inPlace := ["internal/bytealg.IndexByteString", "internal/bytealg.IndexString", "math.sqrt", "math.Float64frombits", "internal/abi.NoEscape"], unfollowed := true, recurses := true, named := ["counterpane/record.removes", "counterpane/record.adds", "unicode/utf8.first", "unicode/utf8.acceptRanges", "internal/bytealg.MaxLen"], apart := false, laid := [("unicode/utf8.acceptRanges", laid_unicode_utf8_acceptRanges), ("counterpane/record.adds", laid_counterpane_record_adds), ("counterpane/record.removes", laid_counterpane_record_removes), ("unicode/utf8.first", laid_unicode_utf8_first)], narrowed := true }
def RecordEmptyUptoSaid : Prop := recordEmptyUptoRow.holds Tryz.pinned (OpenSpec.upto recordEmptySpec)

end Rows
end Go.Proofs.YtbnfjjjdnbcehaaGreatDoor
