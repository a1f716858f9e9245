/-
  DERIVED. GIVEN WITH THE SEED: THE CARDS: each row of YtjpgpbfnmokmiabGreatDoorRows.lean that lists a variable, with what it lists TIED to the program's text (the seventh form; the later family's looks); each row that meets fmt, with fmt's text TOLD by the authors' own Lean function (tested against real Go, not proved from fmt's source: count such statements apart). THE CARD IS WHAT COUNTS. Prove the row's statement (the work); the ties are given (YtjpgpbfnmokmiabGreatDoorTie.lean); close each card by the builder's one call (the guide's Derived/Test/ToyasCard.lean, 'card_holds'). Laid BY PROGRAM, IN A SANDBOX (cutbox-door.mjs). By AI agents, Wed Nov 11 2026. No macro, syntax, notation, axiom, sorry.
-/
import Derived.Test.YtjpgpbfnmokmiabGreatDoorRows
import GoSem.ClaimSeven
namespace Go.Proofs.YtjpgpbfnmokmiabGreatDoor
namespace Rows

/-- THE TIED CARD OF 'counterpanelaw08.PrimMoves'. -/
def primMovesCard : Claim7 := { stood := { row := primMovesRow, standIns := [], harness := (true, "252bbd67e53e29300cf032a94879972f9a8136b016dbf59ecfbff7b627b8bb80"), looks := false }, kinds := [], alts := [], laidByText := true, laidKinds := [.data, .pinned], laidTests := true, laidLooks := .later }
def PrimMovesCardSaid : Prop := Claim7.holds Tryz.pinned (.plain (OpenSpec.ofChange primMovesSpec)) primMovesCard

/-- THE TIED CARD OF 'counterpanelaw09.InvertUndoes'. -/
def invertUndoesCard : Claim7 := { stood := { row := invertUndoesRow, standIns := [], harness := (true, "252bbd67e53e29300cf032a94879972f9a8136b016dbf59ecfbff7b627b8bb80"), looks := false }, kinds := [], alts := [], laidByText := true, laidKinds := [.data, .pinned], laidTests := true, laidLooks := .later }
def InvertUndoesCardSaid : Prop := Claim7.holds Tryz.pinned (.plain (OpenSpec.ofChange invertUndoesSpec)) invertUndoesCard

/-- THE TIED CARD OF 'counterpanelaw09.InvertAll'. -/
def invertAllCard : Claim7 := { stood := { row := invertAllRow, standIns := [], harness := (true, "252bbd67e53e29300cf032a94879972f9a8136b016dbf59ecfbff7b627b8bb80"), looks := false }, kinds := [], alts := [], laidByText := true, laidKinds := [.data, .pinned], laidTests := true, laidLooks := .later }
def InvertAllCardSaid : Prop := Claim7.holds Tryz.pinned (.plain (OpenSpec.ofChange invertAllSpec)) invertAllCard

/-- THE TIED CARD OF 'counterpanelaw10.CommuteTree'. -/
def commuteTreeCard : Claim7 := { stood := { row := commuteTreeRow, standIns := [], harness := (true, "252bbd67e53e29300cf032a94879972f9a8136b016dbf59ecfbff7b627b8bb80"), looks := false }, kinds := [], alts := [], laidByText := true, laidKinds := [.data, .pinned], laidTests := true, laidLooks := .later }
def CommuteTreeCardSaid : Prop := Claim7.holds Tryz.pinned (.plain (OpenSpec.ofChange commuteTreeSpec)) commuteTreeCard

/-- THE TIED CARD OF 'counterpanelaw10.CommutePast'. -/
def commutePastCard : Claim7 := { stood := { row := commutePastRow, standIns := [], harness := (true, "252bbd67e53e29300cf032a94879972f9a8136b016dbf59ecfbff7b627b8bb80"), looks := false }, kinds := [], alts := [], laidByText := true, laidKinds := [.data, .pinned], laidTests := true, laidLooks := .later }
def CommutePastCardSaid : Prop := Claim7.holds Tryz.pinned (.plain (OpenSpec.ofChange commutePastSpec)) commutePastCard

/-- THE SECOND FORM's CARD OF 'counterpanelaw08.PrimMoves'. -/
def primMovesUptoCard : Claim7 := { stood := { row := primMovesUptoRow, standIns := [], harness := (true, "252bbd67e53e29300cf032a94879972f9a8136b016dbf59ecfbff7b627b8bb80"), looks := false }, kinds := [], alts := [], laidByText := true, laidKinds := [.data, .pinned], laidTests := true, laidLooks := .later }
def PrimMovesUptoCardSaid : Prop := Claim7.holds Tryz.pinned (.plain (OpenSpec.upto primMovesSpec)) primMovesUptoCard

/-- THE SECOND FORM's CARD OF 'counterpanelaw09.InvertUndoes'. -/
def invertUndoesUptoCard : Claim7 := { stood := { row := invertUndoesUptoRow, standIns := [], harness := (true, "252bbd67e53e29300cf032a94879972f9a8136b016dbf59ecfbff7b627b8bb80"), looks := false }, kinds := [], alts := [], laidByText := true, laidKinds := [.data, .pinned], laidTests := true, laidLooks := .later }
def InvertUndoesUptoCardSaid : Prop := Claim7.holds Tryz.pinned (.plain (OpenSpec.upto invertUndoesSpec)) invertUndoesUptoCard

/-- THE SECOND FORM's CARD OF 'counterpanelaw09.InvertAll'. -/
def invertAllUptoCard : Claim7 := { stood := { row := invertAllUptoRow, standIns := [], harness := (true, "252bbd67e53e29300cf032a94879972f9a8136b016dbf59ecfbff7b627b8bb80"), looks := false }, kinds := [], alts := [], laidByText := true, laidKinds := [.data, .pinned], laidTests := true, laidLooks := .later }
def InvertAllUptoCardSaid : Prop := Claim7.holds Tryz.pinned (.plain (OpenSpec.upto invertAllSpec)) invertAllUptoCard

/-- THE SECOND FORM's CARD OF 'counterpanelaw10.CommuteTree'. -/
def commuteTreeUptoCard : Claim7 := { stood := { row := commuteTreeUptoRow, standIns := [], harness := (true, "252bbd67e53e29300cf032a94879972f9a8136b016dbf59ecfbff7b627b8bb80"), looks := false }, kinds := [], alts := [], laidByText := true, laidKinds := [.data, .pinned], laidTests := true, laidLooks := .later }
def CommuteTreeUptoCardSaid : Prop := Claim7.holds Tryz.pinned (.plain (OpenSpec.upto commuteTreeSpec)) commuteTreeUptoCard

/-- THE SECOND FORM's CARD OF 'counterpanelaw10.CommutePast'. -/
def commutePastUptoCard : Claim7 := { stood := { row := commutePastUptoRow, standIns := [], harness := (true, "252bbd67e53e29300cf032a94879972f9a8136b016dbf59ecfbff7b627b8bb80"), looks := false }, kinds := [], alts := [], laidByText := true, laidKinds := [.data, .pinned], laidTests := true, laidLooks := .later }
def CommutePastUptoCardSaid : Prop := Claim7.holds Tryz.pinned (.plain (OpenSpec.upto commutePastSpec)) commutePastUptoCard
end Rows
end Go.Proofs.YtjpgpbfnmokmiabGreatDoor
