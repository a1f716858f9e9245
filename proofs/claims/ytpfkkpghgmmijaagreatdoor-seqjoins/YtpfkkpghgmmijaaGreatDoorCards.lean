/-
  DERIVED. GIVEN WITH THE SEED: THE CARDS: each row of YtpfkkpghgmmijaaGreatDoorRows.lean that lists a variable, with what it lists TIED to the program's text (the seventh form; the later family's looks); each row that meets fmt, with fmt's text TOLD by the authors' own Lean function (tested against real Go, not proved from fmt's source: count such statements apart). THE CARD IS WHAT COUNTS. Prove the row's statement (the work); the ties are given (YtpfkkpghgmmijaaGreatDoorTie.lean); close each card by the builder's one call (the guide's Derived/Test/ToyasCard.lean, 'card_holds'). Laid BY PROGRAM, IN A SANDBOX (cutbox-door.mjs). By AI agents, Wed Nov 11 2026. No macro, syntax, notation, axiom, sorry.
-/
import Derived.Test.YtpfkkpghgmmijaaGreatDoorRows
import GoSem.ClaimSeven
namespace Go.Proofs.YtpfkkpghgmmijaaGreatDoor
namespace Rows

/-- THE TIED CARD OF 'counterpanelaw11.SeqTells'. -/
def seqTellsCard : Claim7 := { stood := { row := seqTellsRow, standIns := [], harness := (true, "49524c2c057e63aa3463270ce8e78d5822b144b4dc1e501d4ab9e0b5460b16ff"), looks := false }, kinds := [], alts := [], laidByText := true, laidKinds := [.data, .pinned], laidTests := true, laidLooks := .later }
def SeqTellsCardSaid : Prop := Claim7.holds Tryz.pinned (.plain (OpenSpec.ofChange seqTellsSpec)) seqTellsCard

/-- THE TIED CARD OF 'counterpanelaw11.SeqSwaps'. -/
def seqSwapsCard : Claim7 := { stood := { row := seqSwapsRow, standIns := [], harness := (true, "49524c2c057e63aa3463270ce8e78d5822b144b4dc1e501d4ab9e0b5460b16ff"), looks := false }, kinds := [], alts := [], laidByText := true, laidKinds := [.data, .pinned], laidTests := true, laidLooks := .later }
def SeqSwapsCardSaid : Prop := Claim7.holds Tryz.pinned (.plain (OpenSpec.ofChange seqSwapsSpec)) seqSwapsCard

/-- THE TIED CARD OF 'counterpanelaw11.SeqLast'. -/
def seqLastCard : Claim7 := { stood := { row := seqLastRow, standIns := [], harness := (true, "49524c2c057e63aa3463270ce8e78d5822b144b4dc1e501d4ab9e0b5460b16ff"), looks := false }, kinds := [], alts := [], laidByText := true, laidKinds := [.data, .pinned], laidTests := true, laidLooks := .later }
def SeqLastCardSaid : Prop := Claim7.holds Tryz.pinned (.plain (OpenSpec.ofChange seqLastSpec)) seqLastCard

/-- THE TIED CARD OF 'counterpanelaw11.SeqJoins'. -/
def seqJoinsCard : Claim7 := { stood := { row := seqJoinsRow, standIns := [], harness := (true, "49524c2c057e63aa3463270ce8e78d5822b144b4dc1e501d4ab9e0b5460b16ff"), looks := false }, kinds := [], alts := [], laidByText := true, laidKinds := [.data, .pinned], laidTests := true, laidLooks := .later }
def SeqJoinsCardSaid : Prop := Claim7.holds Tryz.pinned (.plain (OpenSpec.ofChange seqJoinsSpec)) seqJoinsCard

/-- THE TIED CARD OF 'counterpanelaw11.SeqEmpty'. -/
def seqEmptyCard : Claim7 := { stood := { row := seqEmptyRow, standIns := [], harness := (true, "49524c2c057e63aa3463270ce8e78d5822b144b4dc1e501d4ab9e0b5460b16ff"), looks := false }, kinds := [], alts := [], laidByText := true, laidKinds := [.data, .pinned], laidTests := true, laidLooks := .later }
def SeqEmptyCardSaid : Prop := Claim7.holds Tryz.pinned (.plain (OpenSpec.ofChange seqEmptySpec)) seqEmptyCard

/-- THE TIED CARD OF 'counterpanelaw11.SeqUndone'. -/
def seqUndoneCard : Claim7 := { stood := { row := seqUndoneRow, standIns := [], harness := (true, "49524c2c057e63aa3463270ce8e78d5822b144b4dc1e501d4ab9e0b5460b16ff"), looks := false }, kinds := [], alts := [], laidByText := true, laidKinds := [.data, .pinned], laidTests := true, laidLooks := .later }
def SeqUndoneCardSaid : Prop := Claim7.holds Tryz.pinned (.plain (OpenSpec.ofChange seqUndoneSpec)) seqUndoneCard

/-- THE SECOND FORM's CARD OF 'counterpanelaw11.SeqTells'. -/
def seqTellsUptoCard : Claim7 := { stood := { row := seqTellsUptoRow, standIns := [], harness := (true, "49524c2c057e63aa3463270ce8e78d5822b144b4dc1e501d4ab9e0b5460b16ff"), looks := false }, kinds := [], alts := [], laidByText := true, laidKinds := [.data, .pinned], laidTests := true, laidLooks := .later }
def SeqTellsUptoCardSaid : Prop := Claim7.holds Tryz.pinned (.plain (OpenSpec.upto seqTellsSpec)) seqTellsUptoCard

/-- THE SECOND FORM's CARD OF 'counterpanelaw11.SeqSwaps'. -/
def seqSwapsUptoCard : Claim7 := { stood := { row := seqSwapsUptoRow, standIns := [], harness := (true, "49524c2c057e63aa3463270ce8e78d5822b144b4dc1e501d4ab9e0b5460b16ff"), looks := false }, kinds := [], alts := [], laidByText := true, laidKinds := [.data, .pinned], laidTests := true, laidLooks := .later }
def SeqSwapsUptoCardSaid : Prop := Claim7.holds Tryz.pinned (.plain (OpenSpec.upto seqSwapsSpec)) seqSwapsUptoCard

/-- THE SECOND FORM's CARD OF 'counterpanelaw11.SeqLast'. -/
def seqLastUptoCard : Claim7 := { stood := { row := seqLastUptoRow, standIns := [], harness := (true, "49524c2c057e63aa3463270ce8e78d5822b144b4dc1e501d4ab9e0b5460b16ff"), looks := false }, kinds := [], alts := [], laidByText := true, laidKinds := [.data, .pinned], laidTests := true, laidLooks := .later }
def SeqLastUptoCardSaid : Prop := Claim7.holds Tryz.pinned (.plain (OpenSpec.upto seqLastSpec)) seqLastUptoCard

/-- THE SECOND FORM's CARD OF 'counterpanelaw11.SeqJoins'. -/
def seqJoinsUptoCard : Claim7 := { stood := { row := seqJoinsUptoRow, standIns := [], harness := (true, "49524c2c057e63aa3463270ce8e78d5822b144b4dc1e501d4ab9e0b5460b16ff"), looks := false }, kinds := [], alts := [], laidByText := true, laidKinds := [.data, .pinned], laidTests := true, laidLooks := .later }
def SeqJoinsUptoCardSaid : Prop := Claim7.holds Tryz.pinned (.plain (OpenSpec.upto seqJoinsSpec)) seqJoinsUptoCard

/-- THE SECOND FORM's CARD OF 'counterpanelaw11.SeqEmpty'. -/
def seqEmptyUptoCard : Claim7 := { stood := { row := seqEmptyUptoRow, standIns := [], harness := (true, "49524c2c057e63aa3463270ce8e78d5822b144b4dc1e501d4ab9e0b5460b16ff"), looks := false }, kinds := [], alts := [], laidByText := true, laidKinds := [.data, .pinned], laidTests := true, laidLooks := .later }
def SeqEmptyUptoCardSaid : Prop := Claim7.holds Tryz.pinned (.plain (OpenSpec.upto seqEmptySpec)) seqEmptyUptoCard

/-- THE SECOND FORM's CARD OF 'counterpanelaw11.SeqUndone'. -/
def seqUndoneUptoCard : Claim7 := { stood := { row := seqUndoneUptoRow, standIns := [], harness := (true, "49524c2c057e63aa3463270ce8e78d5822b144b4dc1e501d4ab9e0b5460b16ff"), looks := false }, kinds := [], alts := [], laidByText := true, laidKinds := [.data, .pinned], laidTests := true, laidLooks := .later }
def SeqUndoneUptoCardSaid : Prop := Claim7.holds Tryz.pinned (.plain (OpenSpec.upto seqUndoneSpec)) seqUndoneUptoCard
end Rows
end Go.Proofs.YtpfkkpghgmmijaaGreatDoor
