/-
  DERIVED. GIVEN WITH THE SEED: THE CARDS: each row of YtdkhccdclahbaaaGreatDoorRows.lean that lists a variable, with what it lists TIED to the program's text (the seventh form; the later family's looks); each row that meets fmt, with fmt's text TOLD by the authors' own Lean function (tested against real Go, not proved from fmt's source: count such statements apart). THE CARD IS WHAT COUNTS. Prove the row's statement (the work); the ties are given (YtdkhccdclahbaaaGreatDoorTie.lean); close each card by the builder's one call (the guide's Derived/Test/ToyasCard.lean, 'card_holds'). Laid BY PROGRAM, IN A SANDBOX (cutbox-door.mjs). By AI agents, Wed Nov 11 2026. No macro, syntax, notation, axiom, sorry.
-/
import Derived.Test.YtdkhccdclahbaaaGreatDoorRows
import GoSem.ClaimSeven
namespace Go.Proofs.YtdkhccdclahbaaaGreatDoor
namespace Rows

/-- THE TIED CARD OF 'counterpanelaw10.CommuteTells'. -/
def commuteTellsCard : Claim7 := { stood := { row := commuteTellsRow, standIns := [], harness := (true, "10c6a5268eb2c63380df5a47d86718af86e92b773141de0b5361b9df5d27255b"), looks := false }, kinds := [], alts := [], laidByText := true, laidKinds := [.data, .pinned], laidTests := true, laidLooks := .later }
def CommuteTellsCardSaid : Prop := Claim7.holds Tryz.pinned (.plain (OpenSpec.ofChange commuteTellsSpec)) commuteTellsCard

/-- THE TIED CARD OF 'counterpanelaw10.CommuteBack'. -/
def commuteBackCard : Claim7 := { stood := { row := commuteBackRow, standIns := [], harness := (true, "10c6a5268eb2c63380df5a47d86718af86e92b773141de0b5361b9df5d27255b"), looks := false }, kinds := [], alts := [], laidByText := true, laidKinds := [.data, .pinned], laidTests := true, laidLooks := .later }
def CommuteBackCardSaid : Prop := Claim7.holds Tryz.pinned (.plain (OpenSpec.ofChange commuteBackSpec)) commuteBackCard

/-- THE TIED CARD OF 'counterpanelaw10.CommuteApart'. -/
def commuteApartCard : Claim7 := { stood := { row := commuteApartRow, standIns := [], harness := (true, "10c6a5268eb2c63380df5a47d86718af86e92b773141de0b5361b9df5d27255b"), looks := false }, kinds := [], alts := [], laidByText := true, laidKinds := [.data, .pinned], laidTests := true, laidLooks := .later }
def CommuteApartCardSaid : Prop := Claim7.holds Tryz.pinned (.plain (OpenSpec.ofChange commuteApartSpec)) commuteApartCard

/-- THE TIED CARD OF 'counterpanelaw10.CommuteInverse'. -/
def commuteInverseCard : Claim7 := { stood := { row := commuteInverseRow, standIns := [], harness := (true, "10c6a5268eb2c63380df5a47d86718af86e92b773141de0b5361b9df5d27255b"), looks := false }, kinds := [], alts := [], laidByText := true, laidKinds := [.data, .pinned], laidTests := true, laidLooks := .later }
def CommuteInverseCardSaid : Prop := Claim7.holds Tryz.pinned (.plain (OpenSpec.ofChange commuteInverseSpec)) commuteInverseCard

/-- THE TIED CARD OF 'counterpanelaw10.CommuteLines'. -/
def commuteLinesCard : Claim7 := { stood := { row := commuteLinesRow, standIns := [], harness := (true, "10c6a5268eb2c63380df5a47d86718af86e92b773141de0b5361b9df5d27255b"), looks := false }, kinds := [], alts := [], laidByText := true, laidKinds := [.data, .pinned], laidTests := true, laidLooks := .later }
def CommuteLinesCardSaid : Prop := Claim7.holds Tryz.pinned (.plain (OpenSpec.ofChange commuteLinesSpec)) commuteLinesCard

/-- THE TIED CARD OF 'counterpanelaw10.CommuteOver'. -/
def commuteOverCard : Claim7 := { stood := { row := commuteOverRow, standIns := [], harness := (true, "10c6a5268eb2c63380df5a47d86718af86e92b773141de0b5361b9df5d27255b"), looks := false }, kinds := [], alts := [], laidByText := true, laidKinds := [.data, .pinned], laidTests := true, laidLooks := .later }
def CommuteOverCardSaid : Prop := Claim7.holds Tryz.pinned (.plain (OpenSpec.ofChange commuteOverSpec)) commuteOverCard

/-- THE SECOND FORM's CARD OF 'counterpanelaw10.CommuteTells'. -/
def commuteTellsUptoCard : Claim7 := { stood := { row := commuteTellsUptoRow, standIns := [], harness := (true, "10c6a5268eb2c63380df5a47d86718af86e92b773141de0b5361b9df5d27255b"), looks := false }, kinds := [], alts := [], laidByText := true, laidKinds := [.data, .pinned], laidTests := true, laidLooks := .later }
def CommuteTellsUptoCardSaid : Prop := Claim7.holds Tryz.pinned (.plain (OpenSpec.upto commuteTellsSpec)) commuteTellsUptoCard

/-- THE SECOND FORM's CARD OF 'counterpanelaw10.CommuteBack'. -/
def commuteBackUptoCard : Claim7 := { stood := { row := commuteBackUptoRow, standIns := [], harness := (true, "10c6a5268eb2c63380df5a47d86718af86e92b773141de0b5361b9df5d27255b"), looks := false }, kinds := [], alts := [], laidByText := true, laidKinds := [.data, .pinned], laidTests := true, laidLooks := .later }
def CommuteBackUptoCardSaid : Prop := Claim7.holds Tryz.pinned (.plain (OpenSpec.upto commuteBackSpec)) commuteBackUptoCard

/-- THE SECOND FORM's CARD OF 'counterpanelaw10.CommuteApart'. -/
def commuteApartUptoCard : Claim7 := { stood := { row := commuteApartUptoRow, standIns := [], harness := (true, "10c6a5268eb2c63380df5a47d86718af86e92b773141de0b5361b9df5d27255b"), looks := false }, kinds := [], alts := [], laidByText := true, laidKinds := [.data, .pinned], laidTests := true, laidLooks := .later }
def CommuteApartUptoCardSaid : Prop := Claim7.holds Tryz.pinned (.plain (OpenSpec.upto commuteApartSpec)) commuteApartUptoCard

/-- THE SECOND FORM's CARD OF 'counterpanelaw10.CommuteInverse'. -/
def commuteInverseUptoCard : Claim7 := { stood := { row := commuteInverseUptoRow, standIns := [], harness := (true, "10c6a5268eb2c63380df5a47d86718af86e92b773141de0b5361b9df5d27255b"), looks := false }, kinds := [], alts := [], laidByText := true, laidKinds := [.data, .pinned], laidTests := true, laidLooks := .later }
def CommuteInverseUptoCardSaid : Prop := Claim7.holds Tryz.pinned (.plain (OpenSpec.upto commuteInverseSpec)) commuteInverseUptoCard

/-- THE SECOND FORM's CARD OF 'counterpanelaw10.CommuteLines'. -/
def commuteLinesUptoCard : Claim7 := { stood := { row := commuteLinesUptoRow, standIns := [], harness := (true, "10c6a5268eb2c63380df5a47d86718af86e92b773141de0b5361b9df5d27255b"), looks := false }, kinds := [], alts := [], laidByText := true, laidKinds := [.data, .pinned], laidTests := true, laidLooks := .later }
def CommuteLinesUptoCardSaid : Prop := Claim7.holds Tryz.pinned (.plain (OpenSpec.upto commuteLinesSpec)) commuteLinesUptoCard

/-- THE SECOND FORM's CARD OF 'counterpanelaw10.CommuteOver'. -/
def commuteOverUptoCard : Claim7 := { stood := { row := commuteOverUptoRow, standIns := [], harness := (true, "10c6a5268eb2c63380df5a47d86718af86e92b773141de0b5361b9df5d27255b"), looks := false }, kinds := [], alts := [], laidByText := true, laidKinds := [.data, .pinned], laidTests := true, laidLooks := .later }
def CommuteOverUptoCardSaid : Prop := Claim7.holds Tryz.pinned (.plain (OpenSpec.upto commuteOverSpec)) commuteOverUptoCard
end Rows
end Go.Proofs.YtdkhccdclahbaaaGreatDoor
