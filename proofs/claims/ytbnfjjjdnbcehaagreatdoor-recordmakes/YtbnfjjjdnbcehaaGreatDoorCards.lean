/-
  DERIVED. GIVEN WITH THE SEED: THE CARDS: each row of YtbnfjjjdnbcehaaGreatDoorRows.lean that lists a variable, with what it lists TIED to the program's text (the seventh form; the later family's looks); each row that meets fmt, with fmt's text TOLD by the authors' own Lean function (tested against real Go, not proved from fmt's source: count such statements apart). THE CARD IS WHAT COUNTS. Prove the row's statement (the work); the ties are given (YtbnfjjjdnbcehaaGreatDoorTie.lean); close each card by the builder's one call (the guide's Derived/Test/ToyasCard.lean, 'card_holds'). Laid BY PROGRAM, IN A SANDBOX (cutbox-door.mjs). By AI agents, Wed Nov 11 2026. No macro, syntax, notation, axiom, sorry.
-/
import Derived.Test.YtbnfjjjdnbcehaaGreatDoorRows
import GoSem.ClaimSeven
namespace Go.Proofs.YtbnfjjjdnbcehaaGreatDoor
namespace Rows

/-- THE TIED CARD OF 'counterpanelaw11.SeqTells'. -/
def seqTellsCard : Claim7 := { stood := { row := seqTellsRow, standIns := [], harness := (true, "d08a5796899b8de3df7a191d9f93ef763e50afd5077d6f2e2d9b8b342379c241"), looks := false }, kinds := [], alts := [], laidByText := true, laidKinds := [.data, .pinned], laidTests := true, laidLooks := .later }
def SeqTellsCardSaid : Prop := Claim7.holds Tryz.pinned (.plain (OpenSpec.ofChange seqTellsSpec)) seqTellsCard

/-- THE TIED CARD OF 'counterpanelaw12.RecordMakes'. -/
def recordMakesCard : Claim7 := { stood := { row := recordMakesRow, standIns := [], harness := (true, "d08a5796899b8de3df7a191d9f93ef763e50afd5077d6f2e2d9b8b342379c241"), looks := false }, kinds := [], alts := [], laidByText := true, laidKinds := [.data, .data, .data, .pinned], laidTests := true, laidLooks := .later }
def RecordMakesCardSaid : Prop := Claim7.holds Tryz.pinned (.plain (OpenSpec.ofChange recordMakesSpec)) recordMakesCard

/-- THE TIED CARD OF 'counterpanelaw12.RecordRight'. -/
def recordRightCard : Claim7 := { stood := { row := recordRightRow, standIns := [], harness := (true, "d08a5796899b8de3df7a191d9f93ef763e50afd5077d6f2e2d9b8b342379c241"), looks := false }, kinds := [], alts := [], laidByText := true, laidKinds := [.data, .data, .data, .pinned], laidTests := true, laidLooks := .later }
def RecordRightCardSaid : Prop := Claim7.holds Tryz.pinned (.plain (OpenSpec.ofChange recordRightSpec)) recordRightCard

/-- THE TIED CARD OF 'counterpanelaw12.RecordSteps'. -/
def recordStepsCard : Claim7 := { stood := { row := recordStepsRow, standIns := [], harness := (true, "d08a5796899b8de3df7a191d9f93ef763e50afd5077d6f2e2d9b8b342379c241"), looks := false }, kinds := [], alts := [], laidByText := true, laidKinds := [.data, .data, .data, .pinned], laidTests := true, laidLooks := .later }
def RecordStepsCardSaid : Prop := Claim7.holds Tryz.pinned (.plain (OpenSpec.ofChange recordStepsSpec)) recordStepsCard

/-- THE TIED CARD OF 'counterpanelaw12.RecordEmpty'. -/
def recordEmptyCard : Claim7 := { stood := { row := recordEmptyRow, standIns := [], harness := (true, "d08a5796899b8de3df7a191d9f93ef763e50afd5077d6f2e2d9b8b342379c241"), looks := false }, kinds := [], alts := [], laidByText := true, laidKinds := [.data, .data, .data, .pinned], laidTests := true, laidLooks := .later }
def RecordEmptyCardSaid : Prop := Claim7.holds Tryz.pinned (.plain (OpenSpec.ofChange recordEmptySpec)) recordEmptyCard

/-- THE SECOND FORM's CARD OF 'counterpanelaw11.SeqTells'. -/
def seqTellsUptoCard : Claim7 := { stood := { row := seqTellsUptoRow, standIns := [], harness := (true, "d08a5796899b8de3df7a191d9f93ef763e50afd5077d6f2e2d9b8b342379c241"), looks := false }, kinds := [], alts := [], laidByText := true, laidKinds := [.data, .pinned], laidTests := true, laidLooks := .later }
def SeqTellsUptoCardSaid : Prop := Claim7.holds Tryz.pinned (.plain (OpenSpec.upto seqTellsSpec)) seqTellsUptoCard

/-- THE SECOND FORM's CARD OF 'counterpanelaw12.RecordMakes'. -/
def recordMakesUptoCard : Claim7 := { stood := { row := recordMakesUptoRow, standIns := [], harness := (true, "d08a5796899b8de3df7a191d9f93ef763e50afd5077d6f2e2d9b8b342379c241"), looks := false }, kinds := [], alts := [], laidByText := true, laidKinds := [.data, .data, .data, .pinned], laidTests := true, laidLooks := .later }
def RecordMakesUptoCardSaid : Prop := Claim7.holds Tryz.pinned (.plain (OpenSpec.upto recordMakesSpec)) recordMakesUptoCard

/-- THE SECOND FORM's CARD OF 'counterpanelaw12.RecordRight'. -/
def recordRightUptoCard : Claim7 := { stood := { row := recordRightUptoRow, standIns := [], harness := (true, "d08a5796899b8de3df7a191d9f93ef763e50afd5077d6f2e2d9b8b342379c241"), looks := false }, kinds := [], alts := [], laidByText := true, laidKinds := [.data, .data, .data, .pinned], laidTests := true, laidLooks := .later }
def RecordRightUptoCardSaid : Prop := Claim7.holds Tryz.pinned (.plain (OpenSpec.upto recordRightSpec)) recordRightUptoCard

/-- THE SECOND FORM's CARD OF 'counterpanelaw12.RecordSteps'. -/
def recordStepsUptoCard : Claim7 := { stood := { row := recordStepsUptoRow, standIns := [], harness := (true, "d08a5796899b8de3df7a191d9f93ef763e50afd5077d6f2e2d9b8b342379c241"), looks := false }, kinds := [], alts := [], laidByText := true, laidKinds := [.data, .data, .data, .pinned], laidTests := true, laidLooks := .later }
def RecordStepsUptoCardSaid : Prop := Claim7.holds Tryz.pinned (.plain (OpenSpec.upto recordStepsSpec)) recordStepsUptoCard

/-- THE SECOND FORM's CARD OF 'counterpanelaw12.RecordEmpty'. -/
def recordEmptyUptoCard : Claim7 := { stood := { row := recordEmptyUptoRow, standIns := [], harness := (true, "d08a5796899b8de3df7a191d9f93ef763e50afd5077d6f2e2d9b8b342379c241"), looks := false }, kinds := [], alts := [], laidByText := true, laidKinds := [.data, .data, .data, .pinned], laidTests := true, laidLooks := .later }
def RecordEmptyUptoCardSaid : Prop := Claim7.holds Tryz.pinned (.plain (OpenSpec.upto recordEmptySpec)) recordEmptyUptoCard
end Rows
end Go.Proofs.YtbnfjjjdnbcehaaGreatDoor
