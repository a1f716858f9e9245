/-
  DERIVED. GIVEN WITH THE SEED: THE CARDS: each row of YtlmgbcfcikdgpaaGreatDoorRows.lean that lists a variable, with what it lists TIED to the program's text (the seventh form; the later family's looks); each row that meets fmt, with fmt's text TOLD by the authors' own Lean function (tested against real Go, not proved from fmt's source: count such statements apart). THE CARD IS WHAT COUNTS. Prove the row's statement (the work); the ties are given (YtlmgbcfcikdgpaaGreatDoorTie.lean); close each card by the builder's one call (the guide's Derived/Test/ToyasCard.lean, 'card_holds'). Laid BY PROGRAM, IN A SANDBOX (cutbox-door.mjs). By AI agents, Wed Nov 11 2026. No macro, syntax, notation, axiom, sorry.
-/
import Derived.Test.YtlmgbcfcikdgpaaGreatDoorRows
import GoSem.ClaimSeven
namespace Go.Proofs.YtlmgbcfcikdgpaaGreatDoor
namespace Rows

/-- THE TIED CARD OF 'counterpanelaw10.CommuteTells'. -/
def commuteTellsCard : Claim7 := { stood := { row := commuteTellsRow, standIns := [], harness := (true, "49473ad9248d57f8849d51a4d01d703c9996f5b87c6cb5c78277b576b08e66f2"), looks := false }, kinds := [], alts := [], laidByText := true, laidKinds := [.data, .pinned], laidTests := true, laidLooks := .later }
def CommuteTellsCardSaid : Prop := Claim7.holds Tryz.pinned (.plain (OpenSpec.ofChange commuteTellsSpec)) commuteTellsCard

/-- THE TIED CARD OF 'counterpanelaw10.CommuteInverse'. -/
def commuteInverseCard : Claim7 := { stood := { row := commuteInverseRow, standIns := [], harness := (true, "49473ad9248d57f8849d51a4d01d703c9996f5b87c6cb5c78277b576b08e66f2"), looks := false }, kinds := [], alts := [], laidByText := true, laidKinds := [.data, .pinned], laidTests := true, laidLooks := .later }
def CommuteInverseCardSaid : Prop := Claim7.holds Tryz.pinned (.plain (OpenSpec.ofChange commuteInverseSpec)) commuteInverseCard

/-- THE TIED CARD OF 'counterpanelaw11.SeqTells'. -/
def seqTellsCard : Claim7 := { stood := { row := seqTellsRow, standIns := [], harness := (true, "49473ad9248d57f8849d51a4d01d703c9996f5b87c6cb5c78277b576b08e66f2"), looks := false }, kinds := [], alts := [], laidByText := true, laidKinds := [.data, .pinned], laidTests := true, laidLooks := .later }
def SeqTellsCardSaid : Prop := Claim7.holds Tryz.pinned (.plain (OpenSpec.ofChange seqTellsSpec)) seqTellsCard

/-- THE TIED CARD OF 'counterpanelaw11.SeqEmpty'. -/
def seqEmptyCard : Claim7 := { stood := { row := seqEmptyRow, standIns := [], harness := (true, "49473ad9248d57f8849d51a4d01d703c9996f5b87c6cb5c78277b576b08e66f2"), looks := false }, kinds := [], alts := [], laidByText := true, laidKinds := [.data, .pinned], laidTests := true, laidLooks := .later }
def SeqEmptyCardSaid : Prop := Claim7.holds Tryz.pinned (.plain (OpenSpec.ofChange seqEmptySpec)) seqEmptyCard

/-- THE TIED CARD OF 'counterpanelaw11.SeqUndone'. -/
def seqUndoneCard : Claim7 := { stood := { row := seqUndoneRow, standIns := [], harness := (true, "49473ad9248d57f8849d51a4d01d703c9996f5b87c6cb5c78277b576b08e66f2"), looks := false }, kinds := [], alts := [], laidByText := true, laidKinds := [.data, .pinned], laidTests := true, laidLooks := .later }
def SeqUndoneCardSaid : Prop := Claim7.holds Tryz.pinned (.plain (OpenSpec.ofChange seqUndoneSpec)) seqUndoneCard

/-- THE SECOND FORM's CARD OF 'counterpanelaw10.CommuteTells'. -/
def commuteTellsUptoCard : Claim7 := { stood := { row := commuteTellsUptoRow, standIns := [], harness := (true, "49473ad9248d57f8849d51a4d01d703c9996f5b87c6cb5c78277b576b08e66f2"), looks := false }, kinds := [], alts := [], laidByText := true, laidKinds := [.data, .pinned], laidTests := true, laidLooks := .later }
def CommuteTellsUptoCardSaid : Prop := Claim7.holds Tryz.pinned (.plain (OpenSpec.upto commuteTellsSpec)) commuteTellsUptoCard

/-- THE SECOND FORM's CARD OF 'counterpanelaw10.CommuteInverse'. -/
def commuteInverseUptoCard : Claim7 := { stood := { row := commuteInverseUptoRow, standIns := [], harness := (true, "49473ad9248d57f8849d51a4d01d703c9996f5b87c6cb5c78277b576b08e66f2"), looks := false }, kinds := [], alts := [], laidByText := true, laidKinds := [.data, .pinned], laidTests := true, laidLooks := .later }
def CommuteInverseUptoCardSaid : Prop := Claim7.holds Tryz.pinned (.plain (OpenSpec.upto commuteInverseSpec)) commuteInverseUptoCard

/-- THE SECOND FORM's CARD OF 'counterpanelaw11.SeqTells'. -/
def seqTellsUptoCard : Claim7 := { stood := { row := seqTellsUptoRow, standIns := [], harness := (true, "49473ad9248d57f8849d51a4d01d703c9996f5b87c6cb5c78277b576b08e66f2"), looks := false }, kinds := [], alts := [], laidByText := true, laidKinds := [.data, .pinned], laidTests := true, laidLooks := .later }
def SeqTellsUptoCardSaid : Prop := Claim7.holds Tryz.pinned (.plain (OpenSpec.upto seqTellsSpec)) seqTellsUptoCard

/-- THE SECOND FORM's CARD OF 'counterpanelaw11.SeqEmpty'. -/
def seqEmptyUptoCard : Claim7 := { stood := { row := seqEmptyUptoRow, standIns := [], harness := (true, "49473ad9248d57f8849d51a4d01d703c9996f5b87c6cb5c78277b576b08e66f2"), looks := false }, kinds := [], alts := [], laidByText := true, laidKinds := [.data, .pinned], laidTests := true, laidLooks := .later }
def SeqEmptyUptoCardSaid : Prop := Claim7.holds Tryz.pinned (.plain (OpenSpec.upto seqEmptySpec)) seqEmptyUptoCard

/-- THE SECOND FORM's CARD OF 'counterpanelaw11.SeqUndone'. -/
def seqUndoneUptoCard : Claim7 := { stood := { row := seqUndoneUptoRow, standIns := [], harness := (true, "49473ad9248d57f8849d51a4d01d703c9996f5b87c6cb5c78277b576b08e66f2"), looks := false }, kinds := [], alts := [], laidByText := true, laidKinds := [.data, .pinned], laidTests := true, laidLooks := .later }
def SeqUndoneUptoCardSaid : Prop := Claim7.holds Tryz.pinned (.plain (OpenSpec.upto seqUndoneSpec)) seqUndoneUptoCard
end Rows
end Go.Proofs.YtlmgbcfcikdgpaaGreatDoor
