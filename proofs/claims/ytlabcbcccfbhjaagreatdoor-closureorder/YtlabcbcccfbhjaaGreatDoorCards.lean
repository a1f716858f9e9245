/-
  DERIVED. GIVEN WITH THE SEED: THE CARDS: each row of YtlabcbcccfbhjaaGreatDoorRows.lean that lists a variable, with what it lists TIED to the program's text (the seventh form; the later family's looks); each row that meets fmt, with fmt's text TOLD by the authors' own Lean function (tested against real Go, not proved from fmt's source: count such statements apart). THE CARD IS WHAT COUNTS. Prove the row's statement (the work); the ties are given (YtlabcbcccfbhjaaGreatDoorTie.lean); close each card by the builder's one call (the guide's Derived/Test/ToyasCard.lean, 'card_holds'). Laid BY PROGRAM, IN A SANDBOX (cutbox-door.mjs). By AI agents, Wed Nov 11 2026. No macro, syntax, notation, axiom, sorry.
-/
import Derived.Test.YtlabcbcccfbhjaaGreatDoorRows
import GoSem.ClaimSeven
namespace Go.Proofs.YtlabcbcccfbhjaaGreatDoor
namespace Rows

/-- THE TIED CARD OF 'counterpanelaw14.ClosureTells'. -/
def closureTellsCard : Claim7 := { stood := { row := closureTellsRow, standIns := [], harness := (true, "969fdc7fd1c7212ff4775ea5a9ea823e0f146d3dde2c2fefa70e77fb117518c4"), looks := false }, kinds := [], alts := [], laidByText := true, laidKinds := [.data, .pinned], laidTests := true, laidLooks := .later }
def ClosureTellsCardSaid : Prop := Claim7.holds Tryz.pinned (.plain (OpenSpec.ofChange closureTellsSpec)) closureTellsCard

/-- THE TIED CARD OF 'counterpanelaw14.ClosureOrder'. -/
def closureOrderCard : Claim7 := { stood := { row := closureOrderRow, standIns := [], harness := (true, "969fdc7fd1c7212ff4775ea5a9ea823e0f146d3dde2c2fefa70e77fb117518c4"), looks := false }, kinds := [], alts := [], laidByText := true, laidKinds := [.data, .pinned], laidTests := true, laidLooks := .later }
def ClosureOrderCardSaid : Prop := Claim7.holds Tryz.pinned (.plain (OpenSpec.ofChange closureOrderSpec)) closureOrderCard

/-- THE TIED CARD OF 'counterpanelaw14.ClosureClosed'. -/
def closureClosedCard : Claim7 := { stood := { row := closureClosedRow, standIns := [], harness := (true, "969fdc7fd1c7212ff4775ea5a9ea823e0f146d3dde2c2fefa70e77fb117518c4"), looks := false }, kinds := [], alts := [], laidByText := true, laidKinds := [.data, .pinned], laidTests := true, laidLooks := .later }
def ClosureClosedCardSaid : Prop := Claim7.holds Tryz.pinned (.plain (OpenSpec.ofChange closureClosedSpec)) closureClosedCard

/-- THE TIED CARD OF 'counterpanelaw14.ClosureBoth'. -/
def closureBothCard : Claim7 := { stood := { row := closureBothRow, standIns := [], harness := (true, "969fdc7fd1c7212ff4775ea5a9ea823e0f146d3dde2c2fefa70e77fb117518c4"), looks := false }, kinds := [], alts := [], laidByText := true, laidKinds := [.data, .pinned], laidTests := true, laidLooks := .later }
def ClosureBothCardSaid : Prop := Claim7.holds Tryz.pinned (.plain (OpenSpec.ofChange closureBothSpec)) closureBothCard

/-- THE TIED CARD OF 'counterpanelaw14.ClosureLeast'. -/
def closureLeastCard : Claim7 := { stood := { row := closureLeastRow, standIns := [], harness := (true, "969fdc7fd1c7212ff4775ea5a9ea823e0f146d3dde2c2fefa70e77fb117518c4"), looks := false }, kinds := [], alts := [], laidByText := true, laidKinds := [.data, .pinned], laidTests := true, laidLooks := .later }
def ClosureLeastCardSaid : Prop := Claim7.holds Tryz.pinned (.plain (OpenSpec.ofChange closureLeastSpec)) closureLeastCard

/-- THE TIED CARD OF 'counterpanelaw14.ClosureMore'. -/
def closureMoreCard : Claim7 := { stood := { row := closureMoreRow, standIns := [], harness := (true, "969fdc7fd1c7212ff4775ea5a9ea823e0f146d3dde2c2fefa70e77fb117518c4"), looks := false }, kinds := [], alts := [], laidByText := true, laidKinds := [.data, .pinned], laidTests := true, laidLooks := .later }
def ClosureMoreCardSaid : Prop := Claim7.holds Tryz.pinned (.plain (OpenSpec.ofChange closureMoreSpec)) closureMoreCard

/-- THE SECOND FORM's CARD OF 'counterpanelaw14.ClosureTells'. -/
def closureTellsUptoCard : Claim7 := { stood := { row := closureTellsUptoRow, standIns := [], harness := (true, "969fdc7fd1c7212ff4775ea5a9ea823e0f146d3dde2c2fefa70e77fb117518c4"), looks := false }, kinds := [], alts := [], laidByText := true, laidKinds := [.data, .pinned], laidTests := true, laidLooks := .later }
def ClosureTellsUptoCardSaid : Prop := Claim7.holds Tryz.pinned (.plain (OpenSpec.upto closureTellsSpec)) closureTellsUptoCard

/-- THE SECOND FORM's CARD OF 'counterpanelaw14.ClosureOrder'. -/
def closureOrderUptoCard : Claim7 := { stood := { row := closureOrderUptoRow, standIns := [], harness := (true, "969fdc7fd1c7212ff4775ea5a9ea823e0f146d3dde2c2fefa70e77fb117518c4"), looks := false }, kinds := [], alts := [], laidByText := true, laidKinds := [.data, .pinned], laidTests := true, laidLooks := .later }
def ClosureOrderUptoCardSaid : Prop := Claim7.holds Tryz.pinned (.plain (OpenSpec.upto closureOrderSpec)) closureOrderUptoCard

/-- THE SECOND FORM's CARD OF 'counterpanelaw14.ClosureClosed'. -/
def closureClosedUptoCard : Claim7 := { stood := { row := closureClosedUptoRow, standIns := [], harness := (true, "969fdc7fd1c7212ff4775ea5a9ea823e0f146d3dde2c2fefa70e77fb117518c4"), looks := false }, kinds := [], alts := [], laidByText := true, laidKinds := [.data, .pinned], laidTests := true, laidLooks := .later }
def ClosureClosedUptoCardSaid : Prop := Claim7.holds Tryz.pinned (.plain (OpenSpec.upto closureClosedSpec)) closureClosedUptoCard

/-- THE SECOND FORM's CARD OF 'counterpanelaw14.ClosureBoth'. -/
def closureBothUptoCard : Claim7 := { stood := { row := closureBothUptoRow, standIns := [], harness := (true, "969fdc7fd1c7212ff4775ea5a9ea823e0f146d3dde2c2fefa70e77fb117518c4"), looks := false }, kinds := [], alts := [], laidByText := true, laidKinds := [.data, .pinned], laidTests := true, laidLooks := .later }
def ClosureBothUptoCardSaid : Prop := Claim7.holds Tryz.pinned (.plain (OpenSpec.upto closureBothSpec)) closureBothUptoCard

/-- THE SECOND FORM's CARD OF 'counterpanelaw14.ClosureLeast'. -/
def closureLeastUptoCard : Claim7 := { stood := { row := closureLeastUptoRow, standIns := [], harness := (true, "969fdc7fd1c7212ff4775ea5a9ea823e0f146d3dde2c2fefa70e77fb117518c4"), looks := false }, kinds := [], alts := [], laidByText := true, laidKinds := [.data, .pinned], laidTests := true, laidLooks := .later }
def ClosureLeastUptoCardSaid : Prop := Claim7.holds Tryz.pinned (.plain (OpenSpec.upto closureLeastSpec)) closureLeastUptoCard

/-- THE SECOND FORM's CARD OF 'counterpanelaw14.ClosureMore'. -/
def closureMoreUptoCard : Claim7 := { stood := { row := closureMoreUptoRow, standIns := [], harness := (true, "969fdc7fd1c7212ff4775ea5a9ea823e0f146d3dde2c2fefa70e77fb117518c4"), looks := false }, kinds := [], alts := [], laidByText := true, laidKinds := [.data, .pinned], laidTests := true, laidLooks := .later }
def ClosureMoreUptoCardSaid : Prop := Claim7.holds Tryz.pinned (.plain (OpenSpec.upto closureMoreSpec)) closureMoreUptoCard
end Rows
end Go.Proofs.YtlabcbcccfbhjaaGreatDoor
