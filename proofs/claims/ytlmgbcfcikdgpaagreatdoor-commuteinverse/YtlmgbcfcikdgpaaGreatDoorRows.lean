/-
  NARROWER THAN 'FOR EVERY INPUT', by the rows' own cells (each row's printed sentence says how): CommuteTells: laid · CommuteInverse: laid · SeqTells: laid · SeqEmpty: laid · SeqUndone: laid.
  DERIVED. THE GIVEN ROWS OF THIS SEAT. 5 by the template 'for every input the law returns true; each argument reads behind the call as it read before'; 0 by the template 'total and deterministic' (their statements: YtlmgbcfcikdgpaaGreatDoorTotals.lean).
  GIVEN WITH THE SEED: the statements are not yours to turn. If you find one false, say at which input.
  Laid BY PROGRAM, IN A SANDBOX (cutbox-rows.mjs): the forced cells as the released guide's own fill.sh prints them over the translation 794d0900d88069d5… (all of the seat's roots in one cut). By AI agents, Wed Nov 11 2026. No macro, syntax, notation, axiom, sorry.
-/
import Derived.Test.YtlmgbcfcikdgpaaGreatDoorChecked
import GoSem.PinnedTables
import GoSem.Claim
import GoSem.ClaimJoined
import GoSem.ClaimMapViews
import Derived.JoinedTies
import Derived.KernelRfl
namespace Go.Proofs.YtlmgbcfcikdgpaaGreatDoor
/- THE CELL 'sum', in the pinned program and in every row, IS THE sha256 OF THE DUMP (.gsa) THAT YtlmgbcfcikdgpaaGreatDoorProg.lean LOADS. Nothing in Lean hashes anything: it is a label: what it is worth is what the hold of that sum in a sandbox is worth. -/
noncomputable def Tryz.pinned : Pinned := { name := "ytlmgbcfcikdgpaagreatdoor", sum := "794d0900d88069d5dc38138297f7806b738dea95d4fc98d89011c7e8989d83e8", checked := Tryz.checked }
namespace Rows
def none {H : Type} : Left H := { results := [], args := [] }

/- WHAT THE LISTED PACKAGE-LEVEL VARIABLES READ AS WHEN THE CALL BEGINS. Each datum BY PROGRAM (the guide's laid-datum.mjs) off the statement by which the dump's own 'gosem.cut.vars' lays the variable. In a bare row this is a premise. The card (YtlmgbcfcikdgpaaGreatDoorCards.lean) ties it to the program's text. -/
def laid_unicode_utf8_acceptRanges {H : Type} : DataW H := .agg [.agg [.lit (.int .u8 128), .lit (.int .u8 191)], .agg [.lit (.int .u8 160), .lit (.int .u8 191)], .agg [.lit (.int .u8 128), .lit (.int .u8 159)], .agg [.lit (.int .u8 144), .lit (.int .u8 191)], .agg [.lit (.int .u8 128), .lit (.int .u8 143)], .agg [.lit (.int .u8 0), .lit (.int .u8 0)], .agg [.lit (.int .u8 0), .lit (.int .u8 0)], .agg [.lit (.int .u8 0), .lit (.int .u8 0)], .agg [.lit (.int .u8 0), .lit (.int .u8 0)], .agg [.lit (.int .u8 0), .lit (.int .u8 0)], .agg [.lit (.int .u8 0), .lit (.int .u8 0)], .agg [.lit (.int .u8 0), .lit (.int .u8 0)], .agg [.lit (.int .u8 0), .lit (.int .u8 0)], .agg [.lit (.int .u8 0), .lit (.int .u8 0)], .agg [.lit (.int .u8 0), .lit (.int .u8 0)], .agg [.lit (.int .u8 0), .lit (.int .u8 0)]]
/-- One of Go's own tables, pinned by name: the form's constant. -/
def laid_unicode_utf8_first : DataW Unit := Go.Pinned.utf8First

/-- 'counterpanelaw10.CommuteTells': WHATEVER THE INPUT: true; the input reads as it did. -/
def commuteTellsSpec : ChangeSpec := { name := "commuteTells", fn := fun _ => fun
  | [d1, d2, d3] => { results := [.lit (.bool true)], args := [d1, d2, d3] }
  | _ => none }
def commuteTellsRow : OpenClaim := { program := "ytlmgbcfcikdgpaagreatdoor", sum := "794d0900d88069d5dc38138297f7806b738dea95d4fc98d89011c7e8989d83e8", func := "counterpane/counterpanelaw10.CommuteTells", spec := "commuteTells", inPlace := ["internal/bytealg.IndexByteString", "internal/bytealg.IndexString", "internal/abi.NoEscape"], unfollowed := true, recurses := true, named := ["internal/bytealg.MaxLen", "unicode/utf8.first", "unicode/utf8.acceptRanges"], apart := false, laid := [("unicode/utf8.acceptRanges", laid_unicode_utf8_acceptRanges), ("unicode/utf8.first", laid_unicode_utf8_first)] }
def CommuteTellsSaid : Prop := commuteTellsRow.holds Tryz.pinned (OpenSpec.ofChange commuteTellsSpec)

/-- ITS FALSE NEIGHBOUR: 'it returns false'. Refute it at one input. -/
def commuteTellsWrong : ChangeSpec := { name := "commuteTells", fn := fun _ => fun
  | [d1, d2, d3] => { results := [.lit (.bool false)], args := [d1, d2, d3] }
  | _ => none }
def CommuteTellsWrongFalsely : Prop := commuteTellsRow.holds Tryz.pinned (OpenSpec.ofChange commuteTellsWrong)

/-- 'counterpanelaw10.CommuteInverse': WHATEVER THE INPUT: true; the input reads as it did. -/
def commuteInverseSpec : ChangeSpec := { name := "commuteInverse", fn := fun _ => fun
  | [d1, d2] => { results := [.lit (.bool true)], args := [d1, d2] }
  | _ => none }
def commuteInverseRow : OpenClaim := { program := "ytlmgbcfcikdgpaagreatdoor", sum := "794d0900d88069d5dc38138297f7806b738dea95d4fc98d89011c7e8989d83e8", func := "counterpane/counterpanelaw10.CommuteInverse", spec := "commuteInverse", inPlace := ["internal/bytealg.IndexByteString", "internal/bytealg.IndexString", "internal/abi.NoEscape"], unfollowed := true, recurses := true, named := ["internal/bytealg.MaxLen", "unicode/utf8.first", "unicode/utf8.acceptRanges"], apart := false, laid := [("unicode/utf8.acceptRanges", laid_unicode_utf8_acceptRanges), ("unicode/utf8.first", laid_unicode_utf8_first)] }
def CommuteInverseSaid : Prop := commuteInverseRow.holds Tryz.pinned (OpenSpec.ofChange commuteInverseSpec)

/-- ITS FALSE NEIGHBOUR: 'it returns false'. Refute it at one input. -/
def commuteInverseWrong : ChangeSpec := { name := "commuteInverse", fn := fun _ => fun
  | [d1, d2] => { results := [.lit (.bool false)], args := [d1, d2] }
  | _ => none }
def CommuteInverseWrongFalsely : Prop := commuteInverseRow.holds Tryz.pinned (OpenSpec.ofChange commuteInverseWrong)

/-- 'counterpanelaw11.SeqTells': WHATEVER THE INPUT: true; the input reads as it did. -/
def seqTellsSpec : ChangeSpec := { name := "seqTells", fn := fun _ => fun
  | [d1, d2, d3] => { results := [.lit (.bool true)], args := [d1, d2, d3] }
  | _ => none }
def seqTellsRow : OpenClaim := { program := "ytlmgbcfcikdgpaagreatdoor", sum := "794d0900d88069d5dc38138297f7806b738dea95d4fc98d89011c7e8989d83e8", func := "counterpane/counterpanelaw11.SeqTells", spec := "seqTells", inPlace := ["internal/bytealg.IndexByteString", "internal/bytealg.IndexString", "internal/abi.NoEscape", "slices.overlaps[counterpane/api.Prim]"], unfollowed := true, recurses := true, named := ["internal/bytealg.MaxLen", "unicode/utf8.first", "unicode/utf8.acceptRanges"], apart := false, laid := [("unicode/utf8.acceptRanges", laid_unicode_utf8_acceptRanges), ("unicode/utf8.first", laid_unicode_utf8_first)] }
def SeqTellsSaid : Prop := seqTellsRow.holds Tryz.pinned (OpenSpec.ofChange seqTellsSpec)

/-- ITS FALSE NEIGHBOUR: 'it returns false'. Refute it at one input. -/
def seqTellsWrong : ChangeSpec := { name := "seqTells", fn := fun _ => fun
  | [d1, d2, d3] => { results := [.lit (.bool false)], args := [d1, d2, d3] }
  | _ => none }
def SeqTellsWrongFalsely : Prop := seqTellsRow.holds Tryz.pinned (OpenSpec.ofChange seqTellsWrong)

/-- 'counterpanelaw11.SeqEmpty': WHATEVER THE INPUT: true; the input reads as it did. -/
def seqEmptySpec : ChangeSpec := { name := "seqEmpty", fn := fun _ => fun
  | [d1, d2, d3] => { results := [.lit (.bool true)], args := [d1, d2, d3] }
  | _ => none }
def seqEmptyRow : OpenClaim := { program := "ytlmgbcfcikdgpaagreatdoor", sum := "794d0900d88069d5dc38138297f7806b738dea95d4fc98d89011c7e8989d83e8", func := "counterpane/counterpanelaw11.SeqEmpty", spec := "seqEmpty", inPlace := ["internal/bytealg.IndexByteString", "internal/bytealg.IndexString", "internal/abi.NoEscape", "slices.overlaps[counterpane/api.Prim]"], unfollowed := true, recurses := true, named := ["internal/bytealg.MaxLen", "unicode/utf8.first", "unicode/utf8.acceptRanges"], apart := false, laid := [("unicode/utf8.acceptRanges", laid_unicode_utf8_acceptRanges), ("unicode/utf8.first", laid_unicode_utf8_first)] }
def SeqEmptySaid : Prop := seqEmptyRow.holds Tryz.pinned (OpenSpec.ofChange seqEmptySpec)

/-- ITS FALSE NEIGHBOUR: 'it returns false'. Refute it at one input. -/
def seqEmptyWrong : ChangeSpec := { name := "seqEmpty", fn := fun _ => fun
  | [d1, d2, d3] => { results := [.lit (.bool false)], args := [d1, d2, d3] }
  | _ => none }
def SeqEmptyWrongFalsely : Prop := seqEmptyRow.holds Tryz.pinned (OpenSpec.ofChange seqEmptyWrong)

/-- 'counterpanelaw11.SeqUndone': WHATEVER THE INPUT: true; the input reads as it did. -/
def seqUndoneSpec : ChangeSpec := { name := "seqUndone", fn := fun _ => fun
  | [d] => { results := [.lit (.bool true)], args := [d] }
  | _ => none }
def seqUndoneRow : OpenClaim := { program := "ytlmgbcfcikdgpaagreatdoor", sum := "794d0900d88069d5dc38138297f7806b738dea95d4fc98d89011c7e8989d83e8", func := "counterpane/counterpanelaw11.SeqUndone", spec := "seqUndone", inPlace := ["internal/bytealg.IndexByteString", "internal/bytealg.IndexString", "internal/abi.NoEscape", "slices.overlaps[counterpane/api.Prim]"], unfollowed := true, recurses := true, named := ["internal/bytealg.MaxLen", "unicode/utf8.first", "unicode/utf8.acceptRanges"], apart := false, laid := [("unicode/utf8.acceptRanges", laid_unicode_utf8_acceptRanges), ("unicode/utf8.first", laid_unicode_utf8_first)] }
def SeqUndoneSaid : Prop := seqUndoneRow.holds Tryz.pinned (OpenSpec.ofChange seqUndoneSpec)

/-- ITS FALSE NEIGHBOUR: 'it returns false'. Refute it at one input. -/
def seqUndoneWrong : ChangeSpec := { name := "seqUndone", fn := fun _ => fun
  | [d] => { results := [.lit (.bool false)], args := [d] }
  | _ => none }
def SeqUndoneWrongFalsely : Prop := seqUndoneRow.holds Tryz.pinned (OpenSpec.ofChange seqUndoneWrong)

/- THE SECOND FORM. 'bulk': how many values and letters a reading holds, each counted each time it is reached (what is shared counts as often as it is met; a slice's spare places count too). A statement '..UptoSaid' is the law's where the arguments, and the package variables that the reading takes, are together of bulk at most 1048576: NARROWER than '..Said'. Prove '..Said' where nothing that the law and all that it calls make is longer than what came in: it says more and counts as full. Else prove '..UptoSaid'. A law counts once. -/
mutual
def uptoBulk {H : Type} : DataW H → Nat
  | .lit (.string bytes) => bytes.length + 1
  | .lit _ => 1
  | .nil => 1
  | .ptr d => uptoBulk d + 1
  | .slice elems spare => uptoBulkAll elems + uptoBulkAll spare + 1
  | .agg parts => uptoBulkAll parts + 1
  | .iface _ d => uptoBulk d + 1
  | .map entries => uptoBulkEntries entries + 1
  | .held _ => 1
def uptoBulkAll {H : Type} : List (DataW H) → Nat
  | [] => 0
  | d :: r => uptoBulk d + uptoBulkAll r
def uptoBulkEntries {H : Type} : List (Lit × DataW H) → Nat
  | [] => 0
  | x :: r => uptoBulkEntry x + uptoBulkEntries r
def uptoBulkEntry {H : Type} : Lit × DataW H → Nat
  | (.string bytes, d) => bytes.length + uptoBulk d + 1
  | (_, d) => uptoBulk d + 1
 end
def uptoSmall : (H : Type) → List (DataW H) → Bool := fun _ ds => decide (uptoBulkAll ds ≤ 1048576)
def OpenSpec.upto (s : _root_.Go.ChangeSpec) : _root_.Go.OpenSpec := { _root_.Go.OpenSpec.ofChange s with cond := some uptoSmall }

/-- 'counterpanelaw10.CommuteTells', WHERE WHAT IT READS IS OF BULK AT MOST 1048576: true; the input reads as it did. -/
def commuteTellsUptoRow : OpenClaim := { program := "ytlmgbcfcikdgpaagreatdoor", sum := "794d0900d88069d5dc38138297f7806b738dea95d4fc98d89011c7e8989d83e8", func := "counterpane/counterpanelaw10.CommuteTells", spec := "commuteTells", inPlace := ["internal/bytealg.IndexByteString", "internal/bytealg.IndexString", "internal/abi.NoEscape"], unfollowed := true, recurses := true, named := ["internal/bytealg.MaxLen", "unicode/utf8.first", "unicode/utf8.acceptRanges"], apart := false, laid := [("unicode/utf8.acceptRanges", laid_unicode_utf8_acceptRanges), ("unicode/utf8.first", laid_unicode_utf8_first)], narrowed := true }
def CommuteTellsUptoSaid : Prop := commuteTellsUptoRow.holds Tryz.pinned (OpenSpec.upto commuteTellsSpec)

/-- 'counterpanelaw10.CommuteInverse', WHERE WHAT IT READS IS OF BULK AT MOST 1048576: true; the input reads as it did. -/
def commuteInverseUptoRow : OpenClaim := { program := "ytlmgbcfcikdgpaagreatdoor", sum := "794d0900d88069d5dc38138297f7806b738dea95d4fc98d89011c7e8989d83e8", func := "counterpane/counterpanelaw10.CommuteInverse", spec := "commuteInverse", inPlace := ["internal/bytealg.IndexByteString", "internal/bytealg.IndexString", "internal/abi.NoEscape"], unfollowed := true, recurses := true, named := ["internal/bytealg.MaxLen", "unicode/utf8.first", "unicode/utf8.acceptRanges"], apart := false, laid := [("unicode/utf8.acceptRanges", laid_unicode_utf8_acceptRanges), ("unicode/utf8.first", laid_unicode_utf8_first)], narrowed := true }
def CommuteInverseUptoSaid : Prop := commuteInverseUptoRow.holds Tryz.pinned (OpenSpec.upto commuteInverseSpec)

/-- 'counterpanelaw11.SeqTells', WHERE WHAT IT READS IS OF BULK AT MOST 1048576: true; the input reads as it did. -/
def seqTellsUptoRow : OpenClaim := { program := "ytlmgbcfcikdgpaagreatdoor", sum := "794d0900d88069d5dc38138297f7806b738dea95d4fc98d89011c7e8989d83e8", func := "counterpane/counterpanelaw11.SeqTells", spec := "seqTells", inPlace := ["internal/bytealg.IndexByteString", "internal/bytealg.IndexString", "internal/abi.NoEscape", "slices.overlaps[counterpane/api.Prim]"], unfollowed := true, recurses := true, named := ["internal/bytealg.MaxLen", "unicode/utf8.first", "unicode/utf8.acceptRanges"], apart := false, laid := [("unicode/utf8.acceptRanges", laid_unicode_utf8_acceptRanges), ("unicode/utf8.first", laid_unicode_utf8_first)], narrowed := true }
def SeqTellsUptoSaid : Prop := seqTellsUptoRow.holds Tryz.pinned (OpenSpec.upto seqTellsSpec)

/-- 'counterpanelaw11.SeqEmpty', WHERE WHAT IT READS IS OF BULK AT MOST 1048576: true; the input reads as it did. -/
def seqEmptyUptoRow : OpenClaim := { program := "ytlmgbcfcikdgpaagreatdoor", sum := "794d0900d88069d5dc38138297f7806b738dea95d4fc98d89011c7e8989d83e8", func := "counterpane/counterpanelaw11.SeqEmpty", spec := "seqEmpty", inPlace := ["internal/bytealg.IndexByteString", "internal/bytealg.IndexString", "internal/abi.NoEscape", "slices.overlaps[counterpane/api.Prim]"], unfollowed := true, recurses := true, named := ["internal/bytealg.MaxLen", "unicode/utf8.first", "unicode/utf8.acceptRanges"], apart := false, laid := [("unicode/utf8.acceptRanges", laid_unicode_utf8_acceptRanges), ("unicode/utf8.first", laid_unicode_utf8_first)], narrowed := true }
def SeqEmptyUptoSaid : Prop := seqEmptyUptoRow.holds Tryz.pinned (OpenSpec.upto seqEmptySpec)

/-- 'counterpanelaw11.SeqUndone', WHERE WHAT IT READS IS OF BULK AT MOST 1048576: true; the input reads as it did. -/
def seqUndoneUptoRow : OpenClaim := { program := "ytlmgbcfcikdgpaagreatdoor", sum := "794d0900d88069d5dc38138297f7806b738dea95d4fc98d89011c7e8989d83e8", func := "counterpane/counterpanelaw11.SeqUndone", spec := "seqUndone", inPlace := ["internal/bytealg.IndexByteString", "internal/bytealg.IndexString", "internal/abi.NoEscape", "slices.overlaps[counterpane/api.Prim]"], unfollowed := true, recurses := true, named := ["internal/bytealg.MaxLen", "unicode/utf8.first", "unicode/utf8.acceptRanges"], apart := false, laid := [("unicode/utf8.acceptRanges", laid_unicode_utf8_acceptRanges), ("unicode/utf8.first", laid_unicode_utf8_first)], narrowed := true }
def SeqUndoneUptoSaid : Prop := seqUndoneUptoRow.holds Tryz.pinned (OpenSpec.upto seqUndoneSpec)

end Rows
end Go.Proofs.YtlmgbcfcikdgpaaGreatDoor
