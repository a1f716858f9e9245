/-
  NARROWER THAN 'FOR EVERY INPUT', by the rows' own cells (each row's printed sentence says how): PrimTells: laid · PrimAll: laid · PrimTree: laid · PrimCounts: laid · PrimAdds: laid · PrimLines: laid.
  DERIVED. THE GIVEN ROWS OF THIS SEAT. 6 by the template 'for every input the law returns true; each argument reads behind the call as it read before'; 0 by the template 'total and deterministic' (their statements: YtcpjneejlfgkeaaGreatDoorTotals.lean).
  GIVEN WITH THE SEED: the statements are not yours to turn. If you find one false, say at which input.
  Laid BY PROGRAM, IN A SANDBOX (cutbox-rows.mjs): the forced cells as the released guide's own fill.sh prints them over the translation aa0a059d8cfd4f34… (all of the seat's roots in one cut). By AI agents, Wed Nov 11 2026. No macro, syntax, notation, axiom, sorry.
-/
import Derived.Test.YtcpjneejlfgkeaaGreatDoorChecked
import GoSem.PinnedTables
import GoSem.Claim
import GoSem.ClaimJoined
import GoSem.ClaimMapViews
import Derived.JoinedTies
import Derived.KernelRfl
namespace Go.Proofs.YtcpjneejlfgkeaaGreatDoor
/- THE CELL 'sum', in the pinned program and in every row, IS THE sha256 OF THE DUMP (.gsa) THAT YtcpjneejlfgkeaaGreatDoorProg.lean LOADS. Nothing in Lean hashes anything: it is a label: what it is worth is what the hold of that sum in a sandbox is worth. -/
noncomputable def Tryz.pinned : Pinned := { name := "ytcpjneejlfgkeaagreatdoor", sum := "aa0a059d8cfd4f349b2d1df5aef8924debed65abc69a7f7ebff45ad13406e059", checked := Tryz.checked }
namespace Rows
def none {H : Type} : Left H := { results := [], args := [] }

/- WHAT THE LISTED PACKAGE-LEVEL VARIABLES READ AS WHEN THE CALL BEGINS. Each datum BY PROGRAM (the guide's laid-datum.mjs) off the statement by which the dump's own 'gosem.cut.vars' lays the variable. In a bare row this is a premise. The card (YtcpjneejlfgkeaaGreatDoorCards.lean) ties it to the program's text. -/
def laid_unicode_utf8_acceptRanges {H : Type} : DataW H := .agg [.agg [.lit (.int .u8 128), .lit (.int .u8 191)], .agg [.lit (.int .u8 160), .lit (.int .u8 191)], .agg [.lit (.int .u8 128), .lit (.int .u8 159)], .agg [.lit (.int .u8 144), .lit (.int .u8 191)], .agg [.lit (.int .u8 128), .lit (.int .u8 143)], .agg [.lit (.int .u8 0), .lit (.int .u8 0)], .agg [.lit (.int .u8 0), .lit (.int .u8 0)], .agg [.lit (.int .u8 0), .lit (.int .u8 0)], .agg [.lit (.int .u8 0), .lit (.int .u8 0)], .agg [.lit (.int .u8 0), .lit (.int .u8 0)], .agg [.lit (.int .u8 0), .lit (.int .u8 0)], .agg [.lit (.int .u8 0), .lit (.int .u8 0)], .agg [.lit (.int .u8 0), .lit (.int .u8 0)], .agg [.lit (.int .u8 0), .lit (.int .u8 0)], .agg [.lit (.int .u8 0), .lit (.int .u8 0)], .agg [.lit (.int .u8 0), .lit (.int .u8 0)]]
/-- One of Go's own tables, pinned by name: the form's constant. -/
def laid_unicode_utf8_first : DataW Unit := Go.Pinned.utf8First

/-- 'counterpanelaw08.PrimTells': WHATEVER THE INPUT: true; the input reads as it did. -/
def primTellsSpec : ChangeSpec := { name := "primTells", fn := fun _ => fun
  | [d1, d2] => { results := [.lit (.bool true)], args := [d1, d2] }
  | _ => none }
def primTellsRow : OpenClaim := { program := "ytcpjneejlfgkeaagreatdoor", sum := "aa0a059d8cfd4f349b2d1df5aef8924debed65abc69a7f7ebff45ad13406e059", func := "counterpane/counterpanelaw08.PrimTells", spec := "primTells", inPlace := ["internal/bytealg.IndexByteString", "internal/bytealg.IndexString", "internal/abi.NoEscape"], unfollowed := true, recurses := true, named := ["unicode/utf8.first", "unicode/utf8.acceptRanges", "internal/bytealg.MaxLen"], apart := false, laid := [("unicode/utf8.acceptRanges", laid_unicode_utf8_acceptRanges), ("unicode/utf8.first", laid_unicode_utf8_first)] }
def PrimTellsSaid : Prop := primTellsRow.holds Tryz.pinned (OpenSpec.ofChange primTellsSpec)

/-- ITS FALSE NEIGHBOUR: 'it returns false'. Refute it at one input. -/
def primTellsWrong : ChangeSpec := { name := "primTells", fn := fun _ => fun
  | [d1, d2] => { results := [.lit (.bool false)], args := [d1, d2] }
  | _ => none }
def PrimTellsWrongFalsely : Prop := primTellsRow.holds Tryz.pinned (OpenSpec.ofChange primTellsWrong)

/-- 'counterpanelaw08.PrimAll': WHATEVER THE INPUT: true; the input reads as it did. -/
def primAllSpec : ChangeSpec := { name := "primAll", fn := fun _ => fun
  | [d1, d2] => { results := [.lit (.bool true)], args := [d1, d2] }
  | _ => none }
def primAllRow : OpenClaim := { program := "ytcpjneejlfgkeaagreatdoor", sum := "aa0a059d8cfd4f349b2d1df5aef8924debed65abc69a7f7ebff45ad13406e059", func := "counterpane/counterpanelaw08.PrimAll", spec := "primAll", inPlace := ["internal/bytealg.IndexByteString", "internal/bytealg.IndexString", "internal/abi.NoEscape"], unfollowed := true, recurses := true, named := ["unicode/utf8.first", "unicode/utf8.acceptRanges", "internal/bytealg.MaxLen"], apart := false, laid := [("unicode/utf8.acceptRanges", laid_unicode_utf8_acceptRanges), ("unicode/utf8.first", laid_unicode_utf8_first)] }
def PrimAllSaid : Prop := primAllRow.holds Tryz.pinned (OpenSpec.ofChange primAllSpec)

/-- ITS FALSE NEIGHBOUR: 'it returns false'. Refute it at one input. -/
def primAllWrong : ChangeSpec := { name := "primAll", fn := fun _ => fun
  | [d1, d2] => { results := [.lit (.bool false)], args := [d1, d2] }
  | _ => none }
def PrimAllWrongFalsely : Prop := primAllRow.holds Tryz.pinned (OpenSpec.ofChange primAllWrong)

/-- 'counterpanelaw08.PrimTree': WHATEVER THE INPUT: true; the input reads as it did. -/
def primTreeSpec : ChangeSpec := { name := "primTree", fn := fun _ => fun
  | [d1, d2] => { results := [.lit (.bool true)], args := [d1, d2] }
  | _ => none }
def primTreeRow : OpenClaim := { program := "ytcpjneejlfgkeaagreatdoor", sum := "aa0a059d8cfd4f349b2d1df5aef8924debed65abc69a7f7ebff45ad13406e059", func := "counterpane/counterpanelaw08.PrimTree", spec := "primTree", inPlace := ["internal/bytealg.IndexByteString", "internal/bytealg.IndexString", "internal/abi.NoEscape"], unfollowed := true, recurses := true, named := ["unicode/utf8.first", "unicode/utf8.acceptRanges", "internal/bytealg.MaxLen"], apart := false, laid := [("unicode/utf8.acceptRanges", laid_unicode_utf8_acceptRanges), ("unicode/utf8.first", laid_unicode_utf8_first)] }
def PrimTreeSaid : Prop := primTreeRow.holds Tryz.pinned (OpenSpec.ofChange primTreeSpec)

/-- ITS FALSE NEIGHBOUR: 'it returns false'. Refute it at one input. -/
def primTreeWrong : ChangeSpec := { name := "primTree", fn := fun _ => fun
  | [d1, d2] => { results := [.lit (.bool false)], args := [d1, d2] }
  | _ => none }
def PrimTreeWrongFalsely : Prop := primTreeRow.holds Tryz.pinned (OpenSpec.ofChange primTreeWrong)

/-- 'counterpanelaw08.PrimCounts': WHATEVER THE INPUT: true; the input reads as it did. -/
def primCountsSpec : ChangeSpec := { name := "primCounts", fn := fun _ => fun
  | [d1, d2] => { results := [.lit (.bool true)], args := [d1, d2] }
  | _ => none }
def primCountsRow : OpenClaim := { program := "ytcpjneejlfgkeaagreatdoor", sum := "aa0a059d8cfd4f349b2d1df5aef8924debed65abc69a7f7ebff45ad13406e059", func := "counterpane/counterpanelaw08.PrimCounts", spec := "primCounts", inPlace := ["internal/bytealg.IndexByteString", "internal/bytealg.IndexString", "internal/abi.NoEscape"], unfollowed := true, recurses := true, named := ["unicode/utf8.first", "unicode/utf8.acceptRanges", "internal/bytealg.MaxLen"], apart := false, laid := [("unicode/utf8.acceptRanges", laid_unicode_utf8_acceptRanges), ("unicode/utf8.first", laid_unicode_utf8_first)] }
def PrimCountsSaid : Prop := primCountsRow.holds Tryz.pinned (OpenSpec.ofChange primCountsSpec)

/-- ITS FALSE NEIGHBOUR: 'it returns false'. Refute it at one input. -/
def primCountsWrong : ChangeSpec := { name := "primCounts", fn := fun _ => fun
  | [d1, d2] => { results := [.lit (.bool false)], args := [d1, d2] }
  | _ => none }
def PrimCountsWrongFalsely : Prop := primCountsRow.holds Tryz.pinned (OpenSpec.ofChange primCountsWrong)

/-- 'counterpanelaw08.PrimAdds': WHATEVER THE INPUT: true; the input reads as it did. -/
def primAddsSpec : ChangeSpec := { name := "primAdds", fn := fun _ => fun
  | [d1, d2, d3] => { results := [.lit (.bool true)], args := [d1, d2, d3] }
  | _ => none }
def primAddsRow : OpenClaim := { program := "ytcpjneejlfgkeaagreatdoor", sum := "aa0a059d8cfd4f349b2d1df5aef8924debed65abc69a7f7ebff45ad13406e059", func := "counterpane/counterpanelaw08.PrimAdds", spec := "primAdds", inPlace := ["internal/bytealg.IndexByteString", "internal/bytealg.IndexString", "internal/abi.NoEscape"], unfollowed := true, recurses := true, named := ["unicode/utf8.first", "unicode/utf8.acceptRanges", "internal/bytealg.MaxLen"], apart := false, laid := [("unicode/utf8.acceptRanges", laid_unicode_utf8_acceptRanges), ("unicode/utf8.first", laid_unicode_utf8_first)] }
def PrimAddsSaid : Prop := primAddsRow.holds Tryz.pinned (OpenSpec.ofChange primAddsSpec)

/-- ITS FALSE NEIGHBOUR: 'it returns false'. Refute it at one input. -/
def primAddsWrong : ChangeSpec := { name := "primAdds", fn := fun _ => fun
  | [d1, d2, d3] => { results := [.lit (.bool false)], args := [d1, d2, d3] }
  | _ => none }
def PrimAddsWrongFalsely : Prop := primAddsRow.holds Tryz.pinned (OpenSpec.ofChange primAddsWrong)

/-- 'counterpanelaw08.PrimLines': WHATEVER THE INPUT: true; the input reads as it did. -/
def primLinesSpec : ChangeSpec := { name := "primLines", fn := fun _ => fun
  | [d1, d2, d3] => { results := [.lit (.bool true)], args := [d1, d2, d3] }
  | _ => none }
def primLinesRow : OpenClaim := { program := "ytcpjneejlfgkeaagreatdoor", sum := "aa0a059d8cfd4f349b2d1df5aef8924debed65abc69a7f7ebff45ad13406e059", func := "counterpane/counterpanelaw08.PrimLines", spec := "primLines", inPlace := ["internal/bytealg.IndexByteString", "internal/bytealg.IndexString", "internal/abi.NoEscape"], unfollowed := true, recurses := true, named := ["unicode/utf8.first", "unicode/utf8.acceptRanges", "internal/bytealg.MaxLen"], apart := false, laid := [("unicode/utf8.acceptRanges", laid_unicode_utf8_acceptRanges), ("unicode/utf8.first", laid_unicode_utf8_first)] }
def PrimLinesSaid : Prop := primLinesRow.holds Tryz.pinned (OpenSpec.ofChange primLinesSpec)

/-- ITS FALSE NEIGHBOUR: 'it returns false'. Refute it at one input. -/
def primLinesWrong : ChangeSpec := { name := "primLines", fn := fun _ => fun
  | [d1, d2, d3] => { results := [.lit (.bool false)], args := [d1, d2, d3] }
  | _ => none }
def PrimLinesWrongFalsely : Prop := primLinesRow.holds Tryz.pinned (OpenSpec.ofChange primLinesWrong)

/- THE SECOND FORM. 'bulk': how many values and letters a reading holds, each counted each time it is reached (what is shared counts as often as it is met; a slice's spare places count too). A statement '..UptoSaid' is the law's where the arguments, and the package variables that the reading takes, are together of bulk at most 1048576: NARROWER than '..Said'. Prove '..Said' where nothing that the law and all that it calls make is longer than what came in: it says more and counts as full. Else prove '..UptoSaid'. A law counts once. -/
mutual
def uptoBulk {H : Type} : DataW H → Nat
  | .lit (.string bytes) => bytes.length + 1
  | .lit _ => 1
  | .nil => 1
  | .ptr d => uptoBulk d + 1
  | .slice elems spare => uptoBulkAll elems + uptoBulkAll spare + 1
  | .agg parts => uptoBulkAll parts + 1
  | .iface _ d => uptoBulk d + 1
  | .map entries => uptoBulkEntries entries + 1
  | .held _ => 1
def uptoBulkAll {H : Type} : List (DataW H) → Nat
  | [] => 0
  | d :: r => uptoBulk d + uptoBulkAll r
def uptoBulkEntries {H : Type} : List (Lit × DataW H) → Nat
  | [] => 0
  | x :: r => uptoBulkEntry x + uptoBulkEntries r
def uptoBulkEntry {H : Type} : Lit × DataW H → Nat
  | (.string bytes, d) => bytes.length + uptoBulk d + 1
  | (_, d) => uptoBulk d + 1
 end
def uptoSmall : (H : Type) → List (DataW H) → Bool := fun _ ds => decide (uptoBulkAll ds ≤ 1048576)
def OpenSpec.upto (s : _root_.Go.ChangeSpec) : _root_.Go.OpenSpec := { _root_.Go.OpenSpec.ofChange s with cond := some uptoSmall }

/-- 'counterpanelaw08.PrimTells', WHERE WHAT IT READS IS OF BULK AT MOST 1048576: true; the input reads as it did. -/
def primTellsUptoRow : OpenClaim := { program := "ytcpjneejlfgkeaagreatdoor", sum := "aa0a059d8cfd4f349b2d1df5aef8924debed65abc69a7f7ebff45ad13406e059", func := "counterpane/counterpanelaw08.PrimTells", spec := "primTells", inPlace := ["internal/bytealg.IndexByteString", "internal/bytealg.IndexString", "internal/abi.NoEscape"], unfollowed := true, recurses := true, named := ["unicode/utf8.first", "unicode/utf8.acceptRanges", "internal/bytealg.MaxLen"], apart := false, laid := [("unicode/utf8.acceptRanges", laid_unicode_utf8_acceptRanges), ("unicode/utf8.first", laid_unicode_utf8_first)], narrowed := true }
def PrimTellsUptoSaid : Prop := primTellsUptoRow.holds Tryz.pinned (OpenSpec.upto primTellsSpec)

/-- 'counterpanelaw08.PrimAll', WHERE WHAT IT READS IS OF BULK AT MOST 1048576: true; the input reads as it did. -/
def primAllUptoRow : OpenClaim := { program := "ytcpjneejlfgkeaagreatdoor", sum := "aa0a059d8cfd4f349b2d1df5aef8924debed65abc69a7f7ebff45ad13406e059", func := "counterpane/counterpanelaw08.PrimAll", spec := "primAll", inPlace := ["internal/bytealg.IndexByteString", "internal/bytealg.IndexString", "internal/abi.NoEscape"], unfollowed := true, recurses := true, named := ["unicode/utf8.first", "unicode/utf8.acceptRanges", "internal/bytealg.MaxLen"], apart := false, laid := [("unicode/utf8.acceptRanges", laid_unicode_utf8_acceptRanges), ("unicode/utf8.first", laid_unicode_utf8_first)], narrowed := true }
def PrimAllUptoSaid : Prop := primAllUptoRow.holds Tryz.pinned (OpenSpec.upto primAllSpec)

/-- 'counterpanelaw08.PrimTree', WHERE WHAT IT READS IS OF BULK AT MOST 1048576: true; the input reads as it did. -/
def primTreeUptoRow : OpenClaim := { program := "ytcpjneejlfgkeaagreatdoor", sum := "aa0a059d8cfd4f349b2d1df5aef8924debed65abc69a7f7ebff45ad13406e059", func := "counterpane/counterpanelaw08.PrimTree", spec := "primTree", inPlace := ["internal/bytealg.IndexByteString", "internal/bytealg.IndexString", "internal/abi.NoEscape"], unfollowed := true, recurses := true, named := ["unicode/utf8.first", "unicode/utf8.acceptRanges", "internal/bytealg.MaxLen"], apart := false, laid := [("unicode/utf8.acceptRanges", laid_unicode_utf8_acceptRanges), ("unicode/utf8.first", laid_unicode_utf8_first)], narrowed := true }
def PrimTreeUptoSaid : Prop := primTreeUptoRow.holds Tryz.pinned (OpenSpec.upto primTreeSpec)

/-- 'counterpanelaw08.PrimCounts', WHERE WHAT IT READS IS OF BULK AT MOST 1048576: true; the input reads as it did. -/
def primCountsUptoRow : OpenClaim := { program := "ytcpjneejlfgkeaagreatdoor", sum := "aa0a059d8cfd4f349b2d1df5aef8924debed65abc69a7f7ebff45ad13406e059", func := "counterpane/counterpanelaw08.PrimCounts", spec := "primCounts", inPlace := ["internal/bytealg.IndexByteString", "internal/bytealg.IndexString", "internal/abi.NoEscape"], unfollowed := true, recurses := true, named := ["unicode/utf8.first", "unicode/utf8.acceptRanges", "internal/bytealg.MaxLen"], apart := false, laid := [("unicode/utf8.acceptRanges", laid_unicode_utf8_acceptRanges), ("unicode/utf8.first", laid_unicode_utf8_first)], narrowed := true }
def PrimCountsUptoSaid : Prop := primCountsUptoRow.holds Tryz.pinned (OpenSpec.upto primCountsSpec)

/-- 'counterpanelaw08.PrimAdds', WHERE WHAT IT READS IS OF BULK AT MOST 1048576: true; the input reads as it did. -/
def primAddsUptoRow : OpenClaim := { program := "ytcpjneejlfgkeaagreatdoor", sum := "aa0a059d8cfd4f349b2d1df5aef8924debed65abc69a7f7ebff45ad13406e059", func := "counterpane/counterpanelaw08.PrimAdds", spec := "primAdds", inPlace := ["internal/bytealg.IndexByteString", "internal/bytealg.IndexString", "internal/abi.NoEscape"], unfollowed := true, recurses := true, named := ["unicode/utf8.first", "unicode/utf8.acceptRanges", "internal/bytealg.MaxLen"], apart := false, laid := [("unicode/utf8.acceptRanges", laid_unicode_utf8_acceptRanges), ("unicode/utf8.first", laid_unicode_utf8_first)], narrowed := true }
def PrimAddsUptoSaid : Prop := primAddsUptoRow.holds Tryz.pinned (OpenSpec.upto primAddsSpec)

/-- 'counterpanelaw08.PrimLines', WHERE WHAT IT READS IS OF BULK AT MOST 1048576: true; the input reads as it did. -/
def primLinesUptoRow : OpenClaim := { program := "ytcpjneejlfgkeaagreatdoor", sum := "aa0a059d8cfd4f349b2d1df5aef8924debed65abc69a7f7ebff45ad13406e059", func := "counterpane/counterpanelaw08.PrimLines", spec := "primLines", inPlace := ["internal/bytealg.IndexByteString", "internal/bytealg.IndexString", "internal/abi.NoEscape"], unfollowed := true, recurses := true, named := ["unicode/utf8.first", "unicode/utf8.acceptRanges", "internal/bytealg.MaxLen"], apart := false, laid := [("unicode/utf8.acceptRanges", laid_unicode_utf8_acceptRanges), ("unicode/utf8.first", laid_unicode_utf8_first)], narrowed := true }
def PrimLinesUptoSaid : Prop := primLinesUptoRow.holds Tryz.pinned (OpenSpec.upto primLinesSpec)

end Rows
end Go.Proofs.YtcpjneejlfgkeaaGreatDoor
