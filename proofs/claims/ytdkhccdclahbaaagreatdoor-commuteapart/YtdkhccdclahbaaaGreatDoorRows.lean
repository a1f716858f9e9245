/-
  NARROWER THAN 'FOR EVERY INPUT', by the rows' own cells (each row's printed sentence says how): CommuteTells: laid · CommuteBack: laid · CommuteApart: laid · CommuteInverse: laid · CommuteLines: laid · CommuteOver: laid.
  DERIVED. THE GIVEN ROWS OF THIS SEAT. 6 by the template 'for every input the law returns true; each argument reads behind the call as it read before'; 0 by the template 'total and deterministic' (their statements: YtdkhccdclahbaaaGreatDoorTotals.lean).
  GIVEN WITH THE SEED: the statements are not yours to turn. If you find one false, say at which input.
  Laid BY PROGRAM, IN A SANDBOX (cutbox-rows.mjs): the forced cells as the released guide's own fill.sh prints them over the translation e9bb573272037a4c… (all of the seat's roots in one cut). By AI agents, Wed Nov 11 2026. No macro, syntax, notation, axiom, sorry.
-/
import Derived.Test.YtdkhccdclahbaaaGreatDoorChecked
import GoSem.PinnedTables
import GoSem.Claim
import GoSem.ClaimJoined
import GoSem.ClaimMapViews
import Derived.JoinedTies
import Derived.KernelRfl
namespace Go.Proofs.YtdkhccdclahbaaaGreatDoor
/- THE CELL 'sum', in the pinned program and in every row, IS THE sha256 OF THE DUMP (.gsa) THAT YtdkhccdclahbaaaGreatDoorProg.lean LOADS. Nothing in Lean hashes anything: it is a label: what it is worth is what the hold of that sum in a sandbox is worth. -/
noncomputable def Tryz.pinned : Pinned := { name := "ytdkhccdclahbaaagreatdoor", sum := "e9bb573272037a4c31a830c3f07f6dd2d8a66c71f66fbfac928c272ef00526cd", checked := Tryz.checked }
namespace Rows
def none {H : Type} : Left H := { results := [], args := [] }

/- WHAT THE LISTED PACKAGE-LEVEL VARIABLES READ AS WHEN THE CALL BEGINS. Each datum BY PROGRAM (the guide's laid-datum.mjs) off the statement by which the dump's own 'gosem.cut.vars' lays the variable. In a bare row this is a premise. The card (YtdkhccdclahbaaaGreatDoorCards.lean) ties it to the program's text. -/
def laid_unicode_utf8_acceptRanges {H : Type} : DataW H := .agg [.agg [.lit (.int .u8 128), .lit (.int .u8 191)], .agg [.lit (.int .u8 160), .lit (.int .u8 191)], .agg [.lit (.int .u8 128), .lit (.int .u8 159)], .agg [.lit (.int .u8 144), .lit (.int .u8 191)], .agg [.lit (.int .u8 128), .lit (.int .u8 143)], .agg [.lit (.int .u8 0), .lit (.int .u8 0)], .agg [.lit (.int .u8 0), .lit (.int .u8 0)], .agg [.lit (.int .u8 0), .lit (.int .u8 0)], .agg [.lit (.int .u8 0), .lit (.int .u8 0)], .agg [.lit (.int .u8 0), .lit (.int .u8 0)], .agg [.lit (.int .u8 0), .lit (.int .u8 0)], .agg [.lit (.int .u8 0), .lit (.int .u8 0)], .agg [.lit (.int .u8 0), .lit (.int .u8 0)], .agg [.lit (.int .u8 0), .lit (.int .u8 0)], .agg [.lit (.int .u8 0), .lit (.int .u8 0)], .agg [.lit (.int .u8 0), .lit (.int .u8 0)]]
/-- One of Go's own tables, pinned by name: the form's constant. -/
def laid_unicode_utf8_first : DataW Unit := Go.Pinned.utf8First

/-- 'counterpanelaw10.CommuteTells': WHATEVER THE INPUT: true; the input reads as it did. -/
def commuteTellsSpec : ChangeSpec := { name := "commuteTells", fn := fun _ => fun
  | [d1, d2, d3] => { results := [.lit (.bool true)], args := [d1, d2, d3] }
  | _ => none }
def commuteTellsRow : OpenClaim := { program := "ytdkhccdclahbaaagreatdoor", sum := "e9bb573272037a4c31a830c3f07f6dd2d8a66c71f66fbfac928c272ef00526cd", func := "counterpane/counterpanelaw10.CommuteTells", spec := "commuteTells", inPlace := ["internal/bytealg.IndexByteString", "internal/bytealg.IndexString", "internal/abi.NoEscape"], unfollowed := true, recurses := true, named := ["internal/bytealg.MaxLen", "unicode/utf8.first", "unicode/utf8.acceptRanges"], apart := false, laid := [("unicode/utf8.acceptRanges", laid_unicode_utf8_acceptRanges), ("unicode/utf8.first", laid_unicode_utf8_first)] }
def CommuteTellsSaid : Prop := commuteTellsRow.holds Tryz.pinned (OpenSpec.ofChange commuteTellsSpec)

/-- ITS FALSE NEIGHBOUR: 'it returns false'. Refute it at one input. -/
def commuteTellsWrong : ChangeSpec := { name := "commuteTells", fn := fun _ => fun
  | [d1, d2, d3] => { results := [.lit (.bool false)], args := [d1, d2, d3] }
  | _ => none }
def CommuteTellsWrongFalsely : Prop := commuteTellsRow.holds Tryz.pinned (OpenSpec.ofChange commuteTellsWrong)

/-- 'counterpanelaw10.CommuteBack': WHATEVER THE INPUT: true; the input reads as it did. -/
def commuteBackSpec : ChangeSpec := { name := "commuteBack", fn := fun _ => fun
  | [d1, d2] => { results := [.lit (.bool true)], args := [d1, d2] }
  | _ => none }
def commuteBackRow : OpenClaim := { program := "ytdkhccdclahbaaagreatdoor", sum := "e9bb573272037a4c31a830c3f07f6dd2d8a66c71f66fbfac928c272ef00526cd", func := "counterpane/counterpanelaw10.CommuteBack", spec := "commuteBack", inPlace := ["internal/bytealg.IndexByteString", "internal/bytealg.IndexString", "internal/abi.NoEscape"], unfollowed := true, recurses := true, named := ["internal/bytealg.MaxLen", "unicode/utf8.first", "unicode/utf8.acceptRanges"], apart := false, laid := [("unicode/utf8.acceptRanges", laid_unicode_utf8_acceptRanges), ("unicode/utf8.first", laid_unicode_utf8_first)] }
def CommuteBackSaid : Prop := commuteBackRow.holds Tryz.pinned (OpenSpec.ofChange commuteBackSpec)

/-- ITS FALSE NEIGHBOUR: 'it returns false'. Refute it at one input. -/
def commuteBackWrong : ChangeSpec := { name := "commuteBack", fn := fun _ => fun
  | [d1, d2] => { results := [.lit (.bool false)], args := [d1, d2] }
  | _ => none }
def CommuteBackWrongFalsely : Prop := commuteBackRow.holds Tryz.pinned (OpenSpec.ofChange commuteBackWrong)

/-- 'counterpanelaw10.CommuteApart': WHATEVER THE INPUT: true; the input reads as it did. -/
def commuteApartSpec : ChangeSpec := { name := "commuteApart", fn := fun _ => fun
  | [d1, d2] => { results := [.lit (.bool true)], args := [d1, d2] }
  | _ => none }
def commuteApartRow : OpenClaim := { program := "ytdkhccdclahbaaagreatdoor", sum := "e9bb573272037a4c31a830c3f07f6dd2d8a66c71f66fbfac928c272ef00526cd", func := "counterpane/counterpanelaw10.CommuteApart", spec := "commuteApart", inPlace := ["internal/bytealg.IndexByteString", "internal/bytealg.IndexString", "internal/abi.NoEscape"], unfollowed := true, recurses := true, named := ["internal/bytealg.MaxLen", "unicode/utf8.first", "unicode/utf8.acceptRanges"], apart := false, laid := [("unicode/utf8.acceptRanges", laid_unicode_utf8_acceptRanges), ("unicode/utf8.first", laid_unicode_utf8_first)] }
def CommuteApartSaid : Prop := commuteApartRow.holds Tryz.pinned (OpenSpec.ofChange commuteApartSpec)

/-- ITS FALSE NEIGHBOUR: 'it returns false'. Refute it at one input. -/
def commuteApartWrong : ChangeSpec := { name := "commuteApart", fn := fun _ => fun
  | [d1, d2] => { results := [.lit (.bool false)], args := [d1, d2] }
  | _ => none }
def CommuteApartWrongFalsely : Prop := commuteApartRow.holds Tryz.pinned (OpenSpec.ofChange commuteApartWrong)

/-- 'counterpanelaw10.CommuteInverse': WHATEVER THE INPUT: true; the input reads as it did. -/
def commuteInverseSpec : ChangeSpec := { name := "commuteInverse", fn := fun _ => fun
  | [d1, d2] => { results := [.lit (.bool true)], args := [d1, d2] }
  | _ => none }
def commuteInverseRow : OpenClaim := { program := "ytdkhccdclahbaaagreatdoor", sum := "e9bb573272037a4c31a830c3f07f6dd2d8a66c71f66fbfac928c272ef00526cd", func := "counterpane/counterpanelaw10.CommuteInverse", spec := "commuteInverse", inPlace := ["internal/bytealg.IndexByteString", "internal/bytealg.IndexString", "internal/abi.NoEscape"], unfollowed := true, recurses := true, named := ["internal/bytealg.MaxLen", "unicode/utf8.first", "unicode/utf8.acceptRanges"], apart := false, laid := [("unicode/utf8.acceptRanges", laid_unicode_utf8_acceptRanges), ("unicode/utf8.first", laid_unicode_utf8_first)] }
def CommuteInverseSaid : Prop := commuteInverseRow.holds Tryz.pinned (OpenSpec.ofChange commuteInverseSpec)

/-- ITS FALSE NEIGHBOUR: 'it returns false'. Refute it at one input. -/
def commuteInverseWrong : ChangeSpec := { name := "commuteInverse", fn := fun _ => fun
  | [d1, d2] => { results := [.lit (.bool false)], args := [d1, d2] }
  | _ => none }
def CommuteInverseWrongFalsely : Prop := commuteInverseRow.holds Tryz.pinned (OpenSpec.ofChange commuteInverseWrong)

/-- 'counterpanelaw10.CommuteLines': WHATEVER THE INPUT: true; the input reads as it did. -/
def commuteLinesSpec : ChangeSpec := { name := "commuteLines", fn := fun _ => fun
  | [d1, d2, d3, d4, d5, d6] => { results := [.lit (.bool true)], args := [d1, d2, d3, d4, d5, d6] }
  | _ => none }
def commuteLinesRow : OpenClaim := { program := "ytdkhccdclahbaaagreatdoor", sum := "e9bb573272037a4c31a830c3f07f6dd2d8a66c71f66fbfac928c272ef00526cd", func := "counterpane/counterpanelaw10.CommuteLines", spec := "commuteLines", inPlace := ["internal/bytealg.IndexByteString", "internal/bytealg.IndexString", "internal/abi.NoEscape"], unfollowed := true, recurses := true, named := ["internal/bytealg.MaxLen", "unicode/utf8.first", "unicode/utf8.acceptRanges"], apart := false, laid := [("unicode/utf8.acceptRanges", laid_unicode_utf8_acceptRanges), ("unicode/utf8.first", laid_unicode_utf8_first)] }
def CommuteLinesSaid : Prop := commuteLinesRow.holds Tryz.pinned (OpenSpec.ofChange commuteLinesSpec)

/-- ITS FALSE NEIGHBOUR: 'it returns false'. Refute it at one input. -/
def commuteLinesWrong : ChangeSpec := { name := "commuteLines", fn := fun _ => fun
  | [d1, d2, d3, d4, d5, d6] => { results := [.lit (.bool false)], args := [d1, d2, d3, d4, d5, d6] }
  | _ => none }
def CommuteLinesWrongFalsely : Prop := commuteLinesRow.holds Tryz.pinned (OpenSpec.ofChange commuteLinesWrong)

/-- 'counterpanelaw10.CommuteOver': WHATEVER THE INPUT: true; the input reads as it did. -/
def commuteOverSpec : ChangeSpec := { name := "commuteOver", fn := fun _ => fun
  | [d1, d2, d3] => { results := [.lit (.bool true)], args := [d1, d2, d3] }
  | _ => none }
def commuteOverRow : OpenClaim := { program := "ytdkhccdclahbaaagreatdoor", sum := "e9bb573272037a4c31a830c3f07f6dd2d8a66c71f66fbfac928c272ef00526cd", func := "counterpane/counterpanelaw10.CommuteOver", spec := "commuteOver", inPlace := ["internal/bytealg.IndexByteString", "internal/bytealg.IndexString", "internal/abi.NoEscape"], unfollowed := true, recurses := true, named := ["internal/bytealg.MaxLen", "unicode/utf8.first", "unicode/utf8.acceptRanges"], apart := false, laid := [("unicode/utf8.acceptRanges", laid_unicode_utf8_acceptRanges), ("unicode/utf8.first", laid_unicode_utf8_first)] }
def CommuteOverSaid : Prop := commuteOverRow.holds Tryz.pinned (OpenSpec.ofChange commuteOverSpec)

/-- ITS FALSE NEIGHBOUR: 'it returns false'. Refute it at one input. -/
def commuteOverWrong : ChangeSpec := { name := "commuteOver", fn := fun _ => fun
  | [d1, d2, d3] => { results := [.lit (.bool false)], args := [d1, d2, d3] }
  | _ => none }
def CommuteOverWrongFalsely : Prop := commuteOverRow.holds Tryz.pinned (OpenSpec.ofChange commuteOverWrong)

/- THE SECOND FORM. 'bulk': how many values and letters a reading holds, each counted each time it is reached (what is shared counts as often as it is met; a slice's spare places count too). A statement '..UptoSaid' is the law's where the arguments, and the package variables that the reading takes, are together of bulk at most 1048576: NARROWER than '..Said'. Prove '..Said' where nothing that the law and all that it calls make is longer than what came in: it says more and counts as full. Else prove '..UptoSaid'. A law counts once. -/
mutual
def uptoBulk {H : Type} : DataW H → Nat
  | .lit (.string bytes) => bytes.length + 1
  | .lit _ => 1
  | .nil => 1
  | .ptr d => uptoBulk d + 1
  | .slice elems spare => uptoBulkAll elems + uptoBulkAll spare + 1
  | .agg parts => uptoBulkAll parts + 1
  | .iface _ d => uptoBulk d + 1
  | .map entries => uptoBulkEntries entries + 1
  | .held _ => 1
def uptoBulkAll {H : Type} : List (DataW H) → Nat
  | [] => 0
  | d :: r => uptoBulk d + uptoBulkAll r
def uptoBulkEntries {H : Type} : List (Lit × DataW H) → Nat
  | [] => 0
  | x :: r => uptoBulkEntry x + uptoBulkEntries r
def uptoBulkEntry {H : Type} : Lit × DataW H → Nat
  | (.string bytes, d) => bytes.length + uptoBulk d + 1
  | (_, d) => uptoBulk d + 1
 end
def uptoSmall : (H : Type) → List (DataW H) → Bool := fun _ ds => decide (uptoBulkAll ds ≤ 1048576)
def OpenSpec.upto (s : _root_.Go.ChangeSpec) : _root_.Go.OpenSpec := { _root_.Go.OpenSpec.ofChange s with cond := some uptoSmall }

/-- 'counterpanelaw10.CommuteTells', WHERE WHAT IT READS IS OF BULK AT MOST 1048576: true; the input reads as it did. -/
def commuteTellsUptoRow : OpenClaim := { program := "ytdkhccdclahbaaagreatdoor", sum := "e9bb573272037a4c31a830c3f07f6dd2d8a66c71f66fbfac928c272ef00526cd", func := "counterpane/counterpanelaw10.CommuteTells", spec := "commuteTells", inPlace := ["internal/bytealg.IndexByteString", "internal/bytealg.IndexString", "internal/abi.NoEscape"], unfollowed := true, recurses := true, named := ["internal/bytealg.MaxLen", "unicode/utf8.first", "unicode/utf8.acceptRanges"], apart := false, laid := [("unicode/utf8.acceptRanges", laid_unicode_utf8_acceptRanges), ("unicode/utf8.first", laid_unicode_utf8_first)], narrowed := true }
def CommuteTellsUptoSaid : Prop := commuteTellsUptoRow.holds Tryz.pinned (OpenSpec.upto commuteTellsSpec)

/-- 'counterpanelaw10.CommuteBack', WHERE WHAT IT READS IS OF BULK AT MOST 1048576: true; the input reads as it did. -/
def commuteBackUptoRow : OpenClaim := { program := "ytdkhccdclahbaaagreatdoor", sum := "e9bb573272037a4c31a830c3f07f6dd2d8a66c71f66fbfac928c272ef00526cd", func := "counterpane/counterpanelaw10.CommuteBack", spec := "commuteBack", inPlace := ["internal/bytealg.IndexByteString", "internal/bytealg.IndexString", "internal/abi.NoEscape"], unfollowed := true, recurses := true, named := ["internal/bytealg.MaxLen", "unicode/utf8.first", "unicode/utf8.acceptRanges"], apart := false, laid := [("unicode/utf8.acceptRanges", laid_unicode_utf8_acceptRanges), ("unicode/utf8.first", laid_unicode_utf8_first)], narrowed := true }
def CommuteBackUptoSaid : Prop := commuteBackUptoRow.holds Tryz.pinned (OpenSpec.upto commuteBackSpec)

/-- 'counterpanelaw10.CommuteApart', WHERE WHAT IT READS IS OF BULK AT MOST 1048576: true; the input reads as it did. -/
def commuteApartUptoRow : OpenClaim := { program := "ytdkhccdclahbaaagreatdoor", sum := "e9bb573272037a4c31a830c3f07f6dd2d8a66c71f66fbfac928c272ef00526cd", func := "counterpane/counterpanelaw10.CommuteApart", spec := "commuteApart", inPlace := ["internal/bytealg.IndexByteString", "internal/bytealg.IndexString", "internal/abi.NoEscape"], unfollowed := true, recurses := true, named := ["internal/bytealg.MaxLen", "unicode/utf8.first", "unicode/utf8.acceptRanges"], apart := false, laid := [("unicode/utf8.acceptRanges", laid_unicode_utf8_acceptRanges), ("unicode/utf8.first", laid_unicode_utf8_first)], narrowed := true }
def CommuteApartUptoSaid : Prop := commuteApartUptoRow.holds Tryz.pinned (OpenSpec.upto commuteApartSpec)

/-- 'counterpanelaw10.CommuteInverse', WHERE WHAT IT READS IS OF BULK AT MOST 1048576: true; the input reads as it did. -/
def commuteInverseUptoRow : OpenClaim := { program := "ytdkhccdclahbaaagreatdoor", sum := "e9bb573272037a4c31a830c3f07f6dd2d8a66c71f66fbfac928c272ef00526cd", func := "counterpane/counterpanelaw10.CommuteInverse", spec := "commuteInverse", inPlace := ["internal/bytealg.IndexByteString", "internal/bytealg.IndexString", "internal/abi.NoEscape"], unfollowed := true, recurses := true, named := ["internal/bytealg.MaxLen", "unicode/utf8.first", "unicode/utf8.acceptRanges"], apart := false, laid := [("unicode/utf8.acceptRanges", laid_unicode_utf8_acceptRanges), ("unicode/utf8.first", laid_unicode_utf8_first)], narrowed := true }
def CommuteInverseUptoSaid : Prop := commuteInverseUptoRow.holds Tryz.pinned (OpenSpec.upto commuteInverseSpec)

/-- 'counterpanelaw10.CommuteLines', WHERE WHAT IT READS IS OF BULK AT MOST 1048576: true; the input reads as it did. -/
def commuteLinesUptoRow : OpenClaim := { program := "ytdkhccdclahbaaagreatdoor", sum := "e9bb573272037a4c31a830c3f07f6dd2d8a66c71f66fbfac928c272ef00526cd", func := "counterpane/counterpanelaw10.CommuteLines", spec := "commuteLines", inPlace := ["internal/bytealg.IndexByteString", "internal/bytealg.IndexString", "internal/abi.NoEscape"], unfollowed := true, recurses := true, named := ["internal/bytealg.MaxLen", "unicode/utf8.first", "unicode/utf8.acceptRanges"], apart := false, laid := [("unicode/utf8.acceptRanges", laid_unicode_utf8_acceptRanges), ("unicode/utf8.first", laid_unicode_utf8_first)], narrowed := true }
def CommuteLinesUptoSaid : Prop := commuteLinesUptoRow.holds Tryz.pinned (OpenSpec.upto commuteLinesSpec)

/-- 'counterpanelaw10.CommuteOver', WHERE WHAT IT READS IS OF BULK AT MOST 1048576: true; the input reads as it did. -/
def commuteOverUptoRow : OpenClaim := { program := "ytdkhccdclahbaaagreatdoor", sum := "e9bb573272037a4c31a830c3f07f6dd2d8a66c71f66fbfac928c272ef00526cd", func := "counterpane/counterpanelaw10.CommuteOver", spec := "commuteOver", inPlace := ["internal/bytealg.IndexByteString", "internal/bytealg.IndexString", "internal/abi.NoEscape"], unfollowed := true, recurses := true, named := ["internal/bytealg.MaxLen", "unicode/utf8.first", "unicode/utf8.acceptRanges"], apart := false, laid := [("unicode/utf8.acceptRanges", laid_unicode_utf8_acceptRanges), ("unicode/utf8.first", laid_unicode_utf8_first)], narrowed := true }
def CommuteOverUptoSaid : Prop := commuteOverUptoRow.holds Tryz.pinned (OpenSpec.upto commuteOverSpec)

end Rows
end Go.Proofs.YtdkhccdclahbaaaGreatDoor
