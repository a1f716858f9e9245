/-
  DERIVED. GIVEN WITH THE SEED: THE CARDS: each row of YtbiilnhefoplkaaGreatDoorRows.lean that lists a variable, with what it lists TIED to the program's text (the seventh form; the later family's looks); each row that meets fmt, with fmt's text TOLD by the authors' own Lean function (tested against real Go, not proved from fmt's source: count such statements apart). THE CARD IS WHAT COUNTS. Prove the row's statement (the work); the ties are given (YtbiilnhefoplkaaGreatDoorTie.lean); close each card by the builder's one call (the guide's Derived/Test/ToyasCard.lean, 'card_holds'). Laid BY PROGRAM, IN A SANDBOX (cutbox-door.mjs). By AI agents, Wed Nov 11 2026. No macro, syntax, notation, axiom, sorry.
-/
import Derived.Test.YtbiilnhefoplkaaGreatDoorRows
import GoSem.ClaimSeven
namespace Go.Proofs.YtbiilnhefoplkaaGreatDoor
namespace Rows

/-- THE TIED CARD OF 'counterpanelaw14.ClosureTells'. -/
def closureTellsCard : Claim7 := { stood := { row := closureTellsRow, standIns := [], harness := (true, "4b933e589090fc42d0fd9f8f84334f5173cd3da7d852db53d326ec72b28783ce"), looks := false }, kinds := [], alts := [], laidByText := true, laidKinds := [.pinned, .data], laidTests := true, laidLooks := .later }
def ClosureTellsCardSaid : Prop := Claim7.holds Tryz.pinned (.plain (OpenSpec.ofChange closureTellsSpec)) closureTellsCard

/-- THE TIED CARD OF 'counterpanelaw14.ClosureClosed'. -/
def closureClosedCard : Claim7 := { stood := { row := closureClosedRow, standIns := [], harness := (true, "4b933e589090fc42d0fd9f8f84334f5173cd3da7d852db53d326ec72b28783ce"), looks := false }, kinds := [], alts := [], laidByText := true, laidKinds := [.pinned, .data], laidTests := true, laidLooks := .later }
def ClosureClosedCardSaid : Prop := Claim7.holds Tryz.pinned (.plain (OpenSpec.ofChange closureClosedSpec)) closureClosedCard

/-- THE TIED CARD OF 'counterpanelaw14.ClosureBoth'. -/
def closureBothCard : Claim7 := { stood := { row := closureBothRow, standIns := [], harness := (true, "4b933e589090fc42d0fd9f8f84334f5173cd3da7d852db53d326ec72b28783ce"), looks := false }, kinds := [], alts := [], laidByText := true, laidKinds := [.pinned, .data], laidTests := true, laidLooks := .later }
def ClosureBothCardSaid : Prop := Claim7.holds Tryz.pinned (.plain (OpenSpec.ofChange closureBothSpec)) closureBothCard

/-- THE TIED CARD OF 'counterpanelaw14.ClosureMore'. -/
def closureMoreCard : Claim7 := { stood := { row := closureMoreRow, standIns := [], harness := (true, "4b933e589090fc42d0fd9f8f84334f5173cd3da7d852db53d326ec72b28783ce"), looks := false }, kinds := [], alts := [], laidByText := true, laidKinds := [.pinned, .data], laidTests := true, laidLooks := .later }
def ClosureMoreCardSaid : Prop := Claim7.holds Tryz.pinned (.plain (OpenSpec.ofChange closureMoreSpec)) closureMoreCard

/-- THE SECOND FORM's CARD OF 'counterpanelaw14.ClosureTells'. -/
def closureTellsUptoCard : Claim7 := { stood := { row := closureTellsUptoRow, standIns := [], harness := (true, "4b933e589090fc42d0fd9f8f84334f5173cd3da7d852db53d326ec72b28783ce"), looks := false }, kinds := [], alts := [], laidByText := true, laidKinds := [.pinned, .data], laidTests := true, laidLooks := .later }
def ClosureTellsUptoCardSaid : Prop := Claim7.holds Tryz.pinned (.plain (OpenSpec.upto closureTellsSpec)) closureTellsUptoCard

/-- THE SECOND FORM's CARD OF 'counterpanelaw14.ClosureClosed'. -/
def closureClosedUptoCard : Claim7 := { stood := { row := closureClosedUptoRow, standIns := [], harness := (true, "4b933e589090fc42d0fd9f8f84334f5173cd3da7d852db53d326ec72b28783ce"), looks := false }, kinds := [], alts := [], laidByText := true, laidKinds := [.pinned, .data], laidTests := true, laidLooks := .later }
def ClosureClosedUptoCardSaid : Prop := Claim7.holds Tryz.pinned (.plain (OpenSpec.upto closureClosedSpec)) closureClosedUptoCard

/-- THE SECOND FORM's CARD OF 'counterpanelaw14.ClosureBoth'. -/
def closureBothUptoCard : Claim7 := { stood := { row := closureBothUptoRow, standIns := [], harness := (true, "4b933e589090fc42d0fd9f8f84334f5173cd3da7d852db53d326ec72b28783ce"), looks := false }, kinds := [], alts := [], laidByText := true, laidKinds := [.pinned, .data], laidTests := true, laidLooks := .later }
def ClosureBothUptoCardSaid : Prop := Claim7.holds Tryz.pinned (.plain (OpenSpec.upto closureBothSpec)) closureBothUptoCard

/-- THE SECOND FORM's CARD OF 'counterpanelaw14.ClosureMore'. -/
def closureMoreUptoCard : Claim7 := { stood := { row := closureMoreUptoRow, standIns := [], harness := (true, "4b933e589090fc42d0fd9f8f84334f5173cd3da7d852db53d326ec72b28783ce"), looks := false }, kinds := [], alts := [], laidByText := true, laidKinds := [.pinned, .data], laidTests := true, laidLooks := .later }
def ClosureMoreUptoCardSaid : Prop := Claim7.holds Tryz.pinned (.plain (OpenSpec.upto closureMoreSpec)) closureMoreUptoCard
end Rows
end Go.Proofs.YtbiilnhefoplkaaGreatDoor
