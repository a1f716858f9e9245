/-
  NARROWER THAN 'FOR EVERY INPUT', by the rows' own cells (each row's printed sentence says how): PrimMoves: laid · InvertUndoes: laid · InvertAll: laid · CommuteTree: laid · CommutePast: laid.
  DERIVED. THE GIVEN ROWS OF THIS SEAT. 5 by the template 'for every input the law returns true; each argument reads behind the call as it read before'; 0 by the template 'total and deterministic' (their statements: YtjpgpbfnmokmiabGreatDoorTotals.lean).
  GIVEN WITH THE SEED: the statements are not yours to turn. If you find one false, say at which input.
  Laid BY PROGRAM, IN A SANDBOX (cutbox-rows.mjs): the forced cells as the released guide's own fill.sh prints them over the translation 9c3e8e1e7cb4e935… (all of the seat's roots in one cut). By AI agents, Wed Nov 11 2026. No macro, syntax, notation, axiom, sorry.
-/
import Derived.Test.YtjpgpbfnmokmiabGreatDoorChecked
import GoSem.PinnedTables
import GoSem.Claim
import GoSem.ClaimJoined
import GoSem.ClaimMapViews
import Derived.JoinedTies
import Derived.KernelRfl
namespace Go.Proofs.YtjpgpbfnmokmiabGreatDoor
/- THE CELL 'sum', in the pinned program and in every row, IS THE sha256 OF THE DUMP (.gsa) THAT YtjpgpbfnmokmiabGreatDoorProg.lean LOADS. Nothing in Lean hashes anything: it is a label: what it is worth is what the hold of that sum in a sandbox is worth. -/
noncomputable def Tryz.pinned : Pinned := { name := "ytjpgpbfnmokmiabgreatdoor", sum := "9c3e8e1e7cb4e9359e9d7d5700700bb8b6ec6f5d07e4754f78c5ee15dd1306c7", checked := Tryz.checked }
namespace Rows
def none {H : Type} : Left H := { results := [], args := [] }

/- WHAT THE LISTED PACKAGE-LEVEL VARIABLES READ AS WHEN THE CALL BEGINS. Each datum BY PROGRAM (the guide's laid-datum.mjs) off the statement by which the dump's own 'gosem.cut.vars' lays the variable. In a bare row this is a premise. The card (YtjpgpbfnmokmiabGreatDoorCards.lean) ties it to the program's text. -/
def laid_unicode_utf8_acceptRanges {H : Type} : DataW H := .agg [.agg [.lit (.int .u8 128), .lit (.int .u8 191)], .agg [.lit (.int .u8 160), .lit (.int .u8 191)], .agg [.lit (.int .u8 128), .lit (.int .u8 159)], .agg [.lit (.int .u8 144), .lit (.int .u8 191)], .agg [.lit (.int .u8 128), .lit (.int .u8 143)], .agg [.lit (.int .u8 0), .lit (.int .u8 0)], .agg [.lit (.int .u8 0), .lit (.int .u8 0)], .agg [.lit (.int .u8 0), .lit (.int .u8 0)], .agg [.lit (.int .u8 0), .lit (.int .u8 0)], .agg [.lit (.int .u8 0), .lit (.int .u8 0)], .agg [.lit (.int .u8 0), .lit (.int .u8 0)], .agg [.lit (.int .u8 0), .lit (.int .u8 0)], .agg [.lit (.int .u8 0), .lit (.int .u8 0)], .agg [.lit (.int .u8 0), .lit (.int .u8 0)], .agg [.lit (.int .u8 0), .lit (.int .u8 0)], .agg [.lit (.int .u8 0), .lit (.int .u8 0)]]
/-- One of Go's own tables, pinned by name: the form's constant. -/
def laid_unicode_utf8_first : DataW Unit := Go.Pinned.utf8First

/-- 'counterpanelaw08.PrimMoves': WHATEVER THE INPUT: true; the input reads as it did. -/
def primMovesSpec : ChangeSpec := { name := "primMoves", fn := fun _ => fun
  | [d1, d2, d3] => { results := [.lit (.bool true)], args := [d1, d2, d3] }
  | _ => none }
def primMovesRow : OpenClaim := { program := "ytjpgpbfnmokmiabgreatdoor", sum := "9c3e8e1e7cb4e9359e9d7d5700700bb8b6ec6f5d07e4754f78c5ee15dd1306c7", func := "counterpane/counterpanelaw08.PrimMoves", spec := "primMoves", inPlace := ["internal/bytealg.IndexByteString", "internal/bytealg.IndexString", "internal/abi.NoEscape"], unfollowed := true, recurses := true, named := ["unicode/utf8.first", "unicode/utf8.acceptRanges", "internal/bytealg.MaxLen"], apart := false, laid := [("unicode/utf8.acceptRanges", laid_unicode_utf8_acceptRanges), ("unicode/utf8.first", laid_unicode_utf8_first)] }
def PrimMovesSaid : Prop := primMovesRow.holds Tryz.pinned (OpenSpec.ofChange primMovesSpec)

/-- ITS FALSE NEIGHBOUR: 'it returns false'. Refute it at one input. -/
def primMovesWrong : ChangeSpec := { name := "primMoves", fn := fun _ => fun
  | [d1, d2, d3] => { results := [.lit (.bool false)], args := [d1, d2, d3] }
  | _ => none }
def PrimMovesWrongFalsely : Prop := primMovesRow.holds Tryz.pinned (OpenSpec.ofChange primMovesWrong)

/-- 'counterpanelaw09.InvertUndoes': WHATEVER THE INPUT: true; the input reads as it did. -/
def invertUndoesSpec : ChangeSpec := { name := "invertUndoes", fn := fun _ => fun
  | [d1, d2] => { results := [.lit (.bool true)], args := [d1, d2] }
  | _ => none }
def invertUndoesRow : OpenClaim := { program := "ytjpgpbfnmokmiabgreatdoor", sum := "9c3e8e1e7cb4e9359e9d7d5700700bb8b6ec6f5d07e4754f78c5ee15dd1306c7", func := "counterpane/counterpanelaw09.InvertUndoes", spec := "invertUndoes", inPlace := ["internal/bytealg.IndexByteString", "internal/bytealg.IndexString", "internal/abi.NoEscape"], unfollowed := true, recurses := true, named := ["unicode/utf8.first", "unicode/utf8.acceptRanges", "internal/bytealg.MaxLen"], apart := false, laid := [("unicode/utf8.acceptRanges", laid_unicode_utf8_acceptRanges), ("unicode/utf8.first", laid_unicode_utf8_first)] }
def InvertUndoesSaid : Prop := invertUndoesRow.holds Tryz.pinned (OpenSpec.ofChange invertUndoesSpec)

/-- ITS FALSE NEIGHBOUR: 'it returns false'. Refute it at one input. -/
def invertUndoesWrong : ChangeSpec := { name := "invertUndoes", fn := fun _ => fun
  | [d1, d2] => { results := [.lit (.bool false)], args := [d1, d2] }
  | _ => none }
def InvertUndoesWrongFalsely : Prop := invertUndoesRow.holds Tryz.pinned (OpenSpec.ofChange invertUndoesWrong)

/-- 'counterpanelaw09.InvertAll': WHATEVER THE INPUT: true; the input reads as it did. -/
def invertAllSpec : ChangeSpec := { name := "invertAll", fn := fun _ => fun
  | [d1, d2] => { results := [.lit (.bool true)], args := [d1, d2] }
  | _ => none }
def invertAllRow : OpenClaim := { program := "ytjpgpbfnmokmiabgreatdoor", sum := "9c3e8e1e7cb4e9359e9d7d5700700bb8b6ec6f5d07e4754f78c5ee15dd1306c7", func := "counterpane/counterpanelaw09.InvertAll", spec := "invertAll", inPlace := ["internal/bytealg.IndexByteString", "internal/bytealg.IndexString", "internal/abi.NoEscape"], unfollowed := true, recurses := true, named := ["unicode/utf8.first", "unicode/utf8.acceptRanges", "internal/bytealg.MaxLen"], apart := false, laid := [("unicode/utf8.acceptRanges", laid_unicode_utf8_acceptRanges), ("unicode/utf8.first", laid_unicode_utf8_first)] }
def InvertAllSaid : Prop := invertAllRow.holds Tryz.pinned (OpenSpec.ofChange invertAllSpec)

/-- ITS FALSE NEIGHBOUR: 'it returns false'. Refute it at one input. -/
def invertAllWrong : ChangeSpec := { name := "invertAll", fn := fun _ => fun
  | [d1, d2] => { results := [.lit (.bool false)], args := [d1, d2] }
  | _ => none }
def InvertAllWrongFalsely : Prop := invertAllRow.holds Tryz.pinned (OpenSpec.ofChange invertAllWrong)

/-- 'counterpanelaw10.CommuteTree': WHATEVER THE INPUT: true; the input reads as it did. -/
def commuteTreeSpec : ChangeSpec := { name := "commuteTree", fn := fun _ => fun
  | [d1, d2, d3] => { results := [.lit (.bool true)], args := [d1, d2, d3] }
  | _ => none }
def commuteTreeRow : OpenClaim := { program := "ytjpgpbfnmokmiabgreatdoor", sum := "9c3e8e1e7cb4e9359e9d7d5700700bb8b6ec6f5d07e4754f78c5ee15dd1306c7", func := "counterpane/counterpanelaw10.CommuteTree", spec := "commuteTree", inPlace := ["internal/bytealg.IndexByteString", "internal/bytealg.IndexString", "internal/abi.NoEscape"], unfollowed := true, recurses := true, named := ["internal/bytealg.MaxLen", "unicode/utf8.first", "unicode/utf8.acceptRanges"], apart := false, laid := [("unicode/utf8.acceptRanges", laid_unicode_utf8_acceptRanges), ("unicode/utf8.first", laid_unicode_utf8_first)] }
def CommuteTreeSaid : Prop := commuteTreeRow.holds Tryz.pinned (OpenSpec.ofChange commuteTreeSpec)

/-- ITS FALSE NEIGHBOUR: 'it returns false'. Refute it at one input. -/
def commuteTreeWrong : ChangeSpec := { name := "commuteTree", fn := fun _ => fun
  | [d1, d2, d3] => { results := [.lit (.bool false)], args := [d1, d2, d3] }
  | _ => none }
def CommuteTreeWrongFalsely : Prop := commuteTreeRow.holds Tryz.pinned (OpenSpec.ofChange commuteTreeWrong)

/-- 'counterpanelaw10.CommutePast': WHATEVER THE INPUT: true; the input reads as it did. -/
def commutePastSpec : ChangeSpec := { name := "commutePast", fn := fun _ => fun
  | [d1, d2, d3] => { results := [.lit (.bool true)], args := [d1, d2, d3] }
  | _ => none }
def commutePastRow : OpenClaim := { program := "ytjpgpbfnmokmiabgreatdoor", sum := "9c3e8e1e7cb4e9359e9d7d5700700bb8b6ec6f5d07e4754f78c5ee15dd1306c7", func := "counterpane/counterpanelaw10.CommutePast", spec := "commutePast", inPlace := ["internal/bytealg.IndexByteString", "internal/bytealg.IndexString", "internal/abi.NoEscape"], unfollowed := true, recurses := true, named := ["internal/bytealg.MaxLen", "unicode/utf8.first", "unicode/utf8.acceptRanges"], apart := false, laid := [("unicode/utf8.acceptRanges", laid_unicode_utf8_acceptRanges), ("unicode/utf8.first", laid_unicode_utf8_first)] }
def CommutePastSaid : Prop := commutePastRow.holds Tryz.pinned (OpenSpec.ofChange commutePastSpec)

/-- ITS FALSE NEIGHBOUR: 'it returns false'. Refute it at one input. -/
def commutePastWrong : ChangeSpec := { name := "commutePast", fn := fun _ => fun
  | [d1, d2, d3] => { results := [.lit (.bool false)], args := [d1, d2, d3] }
  | _ => none }
def CommutePastWrongFalsely : Prop := commutePastRow.holds Tryz.pinned (OpenSpec.ofChange commutePastWrong)

/- THE SECOND FORM. 'bulk': how many values and letters a reading holds, each counted each time it is reached (what is shared counts as often as it is met; a slice's spare places count too). A statement '..UptoSaid' is the law's where the arguments, and the package variables that the reading takes, are together of bulk at most 1048576: NARROWER than '..Said'. Prove '..Said' where nothing that the law and all that it calls make is longer than what came in: it says more and counts as full. Else prove '..UptoSaid'. A law counts once. -/
mutual
def uptoBulk {H : Type} : DataW H → Nat
  | .lit (.string bytes) => bytes.length + 1
  | .lit _ => 1
  | .nil => 1
  | .ptr d => uptoBulk d + 1
  | .slice elems spare => uptoBulkAll elems + uptoBulkAll spare + 1
  | .agg parts => uptoBulkAll parts + 1
  | .iface _ d => uptoBulk d + 1
  | .map entries => uptoBulkEntries entries + 1
  | .held _ => 1
def uptoBulkAll {H : Type} : List (DataW H) → Nat
  | [] => 0
  | d :: r => uptoBulk d + uptoBulkAll r
def uptoBulkEntries {H : Type} : List (Lit × DataW H) → Nat
  | [] => 0
  | x :: r => uptoBulkEntry x + uptoBulkEntries r
def uptoBulkEntry {H : Type} : Lit × DataW H → Nat
  | (.string bytes, d) => bytes.length + uptoBulk d + 1
  | (_, d) => uptoBulk d + 1
 end
def uptoSmall : (H : Type) → List (DataW H) → Bool := fun _ ds => decide (uptoBulkAll ds ≤ 1048576)
def OpenSpec.upto (s : _root_.Go.ChangeSpec) : _root_.Go.OpenSpec := { _root_.Go.OpenSpec.ofChange s with cond := some uptoSmall }

/-- 'counterpanelaw08.PrimMoves', WHERE WHAT IT READS IS OF BULK AT MOST 1048576: true; the input reads as it did. -/
def primMovesUptoRow : OpenClaim := { program := "ytjpgpbfnmokmiabgreatdoor", sum := "9c3e8e1e7cb4e9359e9d7d5700700bb8b6ec6f5d07e4754f78c5ee15dd1306c7", func := "counterpane/counterpanelaw08.PrimMoves", spec := "primMoves", inPlace := ["internal/bytealg.IndexByteString", "internal/bytealg.IndexString", "internal/abi.NoEscape"], unfollowed := true, recurses := true, named := ["unicode/utf8.first", "unicode/utf8.acceptRanges", "internal/bytealg.MaxLen"], apart := false, laid := [("unicode/utf8.acceptRanges", laid_unicode_utf8_acceptRanges), ("unicode/utf8.first", laid_unicode_utf8_first)], narrowed := true }
def PrimMovesUptoSaid : Prop := primMovesUptoRow.holds Tryz.pinned (OpenSpec.upto primMovesSpec)

/-- 'counterpanelaw09.InvertUndoes', WHERE WHAT IT READS IS OF BULK AT MOST 1048576: true; the input reads as it did. -/
def invertUndoesUptoRow : OpenClaim := { program := "ytjpgpbfnmokmiabgreatdoor", sum := "9c3e8e1e7cb4e9359e9d7d5700700bb8b6ec6f5d07e4754f78c5ee15dd1306c7", func := "counterpane/counterpanelaw09.InvertUndoes", spec := "invertUndoes", inPlace := ["internal/bytealg.IndexByteString", "internal/bytealg.IndexString", "internal/abi.NoEscape"], unfollowed := true, recurses := true, named := ["unicode/utf8.first", "unicode/utf8.acceptRanges", "internal/bytealg.MaxLen"], apart := false, laid := [("unicode/utf8.acceptRanges", laid_unicode_utf8_acceptRanges), ("unicode/utf8.first", laid_unicode_utf8_first)], narrowed := true }
def InvertUndoesUptoSaid : Prop := invertUndoesUptoRow.holds Tryz.pinned (OpenSpec.upto invertUndoesSpec)

/-- 'counterpanelaw09.InvertAll', WHERE WHAT IT READS IS OF BULK AT MOST 1048576: true; the input reads as it did. -/
def invertAllUptoRow : OpenClaim := { program := "ytjpgpbfnmokmiabgreatdoor", sum := "9c3e8e1e7cb4e9359e9d7d5700700bb8b6ec6f5d07e4754f78c5ee15dd1306c7", func := "counterpane/counterpanelaw09.InvertAll", spec := "invertAll", inPlace := ["internal/bytealg.IndexByteString", "internal/bytealg.IndexString", "internal/abi.NoEscape"], unfollowed := true, recurses := true, named := ["unicode/utf8.first", "unicode/utf8.acceptRanges", "internal/bytealg.MaxLen"], apart := false, laid := [("unicode/utf8.acceptRanges", laid_unicode_utf8_acceptRanges), ("unicode/utf8.first", laid_unicode_utf8_first)], narrowed := true }
def InvertAllUptoSaid : Prop := invertAllUptoRow.holds Tryz.pinned (OpenSpec.upto invertAllSpec)

/-- 'counterpanelaw10.CommuteTree', WHERE WHAT IT READS IS OF BULK AT MOST 1048576: true; the input reads as it did. -/
def commuteTreeUptoRow : OpenClaim := { program := "ytjpgpbfnmokmiabgreatdoor", sum := "9c3e8e1e7cb4e9359e9d7d5700700bb8b6ec6f5d07e4754f78c5ee15dd1306c7", func := "counterpane/counterpanelaw10.CommuteTree", spec := "commuteTree", inPlace := ["internal/bytealg.IndexByteString", "internal/bytealg.IndexString", "internal/abi.NoEscape"], unfollowed := true, recurses := true, named := ["internal/bytealg.MaxLen", "unicode/utf8.first", "unicode/utf8.acceptRanges"], apart := false, laid := [("unicode/utf8.acceptRanges", laid_unicode_utf8_acceptRanges), ("unicode/utf8.first", laid_unicode_utf8_first)], narrowed := true }
def CommuteTreeUptoSaid : Prop := commuteTreeUptoRow.holds Tryz.pinned (OpenSpec.upto commuteTreeSpec)

/-- 'counterpanelaw10.CommutePast', WHERE WHAT IT READS IS OF BULK AT MOST 1048576: true; the input reads as it did. -/
def commutePastUptoRow : OpenClaim := { program := "ytjpgpbfnmokmiabgreatdoor", sum := "9c3e8e1e7cb4e9359e9d7d5700700bb8b6ec6f5d07e4754f78c5ee15dd1306c7", func := "counterpane/counterpanelaw10.CommutePast", spec := "commutePast", inPlace := ["internal/bytealg.IndexByteString", "internal/bytealg.IndexString", "internal/abi.NoEscape"], unfollowed := true, recurses := true, named := ["internal/bytealg.MaxLen", "unicode/utf8.first", "unicode/utf8.acceptRanges"], apart := false, laid := [("unicode/utf8.acceptRanges", laid_unicode_utf8_acceptRanges), ("unicode/utf8.first", laid_unicode_utf8_first)], narrowed := true }
def CommutePastUptoSaid : Prop := commutePastUptoRow.holds Tryz.pinned (OpenSpec.upto commutePastSpec)

end Rows
end Go.Proofs.YtjpgpbfnmokmiabGreatDoor
