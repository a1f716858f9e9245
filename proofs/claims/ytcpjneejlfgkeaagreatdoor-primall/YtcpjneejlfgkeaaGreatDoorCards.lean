/-
  DERIVED. GIVEN WITH THE SEED: THE CARDS: each row of YtcpjneejlfgkeaaGreatDoorRows.lean that lists a variable, with what it lists TIED to the program's text (the seventh form; the later family's looks); each row that meets fmt, with fmt's text TOLD by the authors' own Lean function (tested against real Go, not proved from fmt's source: count such statements apart). THE CARD IS WHAT COUNTS. Prove the row's statement (the work); the ties are given (YtcpjneejlfgkeaaGreatDoorTie.lean); close each card by the builder's one call (the guide's Derived/Test/ToyasCard.lean, 'card_holds'). Laid BY PROGRAM, IN A SANDBOX (cutbox-door.mjs). By AI agents, Wed Nov 11 2026. No macro, syntax, notation, axiom, sorry.
-/
import Derived.Test.YtcpjneejlfgkeaaGreatDoorRows
import GoSem.ClaimSeven
namespace Go.Proofs.YtcpjneejlfgkeaaGreatDoor
namespace Rows

/-- THE TIED CARD OF 'counterpanelaw08.PrimTells'. -/
def primTellsCard : Claim7 := { stood := { row := primTellsRow, standIns := [], harness := (true, "8f5ddc6329f86d1fd966a5b307709f3373139346c331cd4183edd929d5b2e677"), looks := false }, kinds := [], alts := [], laidByText := true, laidKinds := [.data, .pinned], laidTests := true, laidLooks := .later }
def PrimTellsCardSaid : Prop := Claim7.holds Tryz.pinned (.plain (OpenSpec.ofChange primTellsSpec)) primTellsCard

/-- THE TIED CARD OF 'counterpanelaw08.PrimAll'. -/
def primAllCard : Claim7 := { stood := { row := primAllRow, standIns := [], harness := (true, "8f5ddc6329f86d1fd966a5b307709f3373139346c331cd4183edd929d5b2e677"), looks := false }, kinds := [], alts := [], laidByText := true, laidKinds := [.data, .pinned], laidTests := true, laidLooks := .later }
def PrimAllCardSaid : Prop := Claim7.holds Tryz.pinned (.plain (OpenSpec.ofChange primAllSpec)) primAllCard

/-- THE TIED CARD OF 'counterpanelaw08.PrimTree'. -/
def primTreeCard : Claim7 := { stood := { row := primTreeRow, standIns := [], harness := (true, "8f5ddc6329f86d1fd966a5b307709f3373139346c331cd4183edd929d5b2e677"), looks := false }, kinds := [], alts := [], laidByText := true, laidKinds := [.data, .pinned], laidTests := true, laidLooks := .later }
def PrimTreeCardSaid : Prop := Claim7.holds Tryz.pinned (.plain (OpenSpec.ofChange primTreeSpec)) primTreeCard

/-- THE TIED CARD OF 'counterpanelaw08.PrimCounts'. -/
def primCountsCard : Claim7 := { stood := { row := primCountsRow, standIns := [], harness := (true, "8f5ddc6329f86d1fd966a5b307709f3373139346c331cd4183edd929d5b2e677"), looks := false }, kinds := [], alts := [], laidByText := true, laidKinds := [.data, .pinned], laidTests := true, laidLooks := .later }
def PrimCountsCardSaid : Prop := Claim7.holds Tryz.pinned (.plain (OpenSpec.ofChange primCountsSpec)) primCountsCard

/-- THE TIED CARD OF 'counterpanelaw08.PrimAdds'. -/
def primAddsCard : Claim7 := { stood := { row := primAddsRow, standIns := [], harness := (true, "8f5ddc6329f86d1fd966a5b307709f3373139346c331cd4183edd929d5b2e677"), looks := false }, kinds := [], alts := [], laidByText := true, laidKinds := [.data, .pinned], laidTests := true, laidLooks := .later }
def PrimAddsCardSaid : Prop := Claim7.holds Tryz.pinned (.plain (OpenSpec.ofChange primAddsSpec)) primAddsCard

/-- THE TIED CARD OF 'counterpanelaw08.PrimLines'. -/
def primLinesCard : Claim7 := { stood := { row := primLinesRow, standIns := [], harness := (true, "8f5ddc6329f86d1fd966a5b307709f3373139346c331cd4183edd929d5b2e677"), looks := false }, kinds := [], alts := [], laidByText := true, laidKinds := [.data, .pinned], laidTests := true, laidLooks := .later }
def PrimLinesCardSaid : Prop := Claim7.holds Tryz.pinned (.plain (OpenSpec.ofChange primLinesSpec)) primLinesCard

/-- THE SECOND FORM's CARD OF 'counterpanelaw08.PrimTells'. -/
def primTellsUptoCard : Claim7 := { stood := { row := primTellsUptoRow, standIns := [], harness := (true, "8f5ddc6329f86d1fd966a5b307709f3373139346c331cd4183edd929d5b2e677"), looks := false }, kinds := [], alts := [], laidByText := true, laidKinds := [.data, .pinned], laidTests := true, laidLooks := .later }
def PrimTellsUptoCardSaid : Prop := Claim7.holds Tryz.pinned (.plain (OpenSpec.upto primTellsSpec)) primTellsUptoCard

/-- THE SECOND FORM's CARD OF 'counterpanelaw08.PrimAll'. -/
def primAllUptoCard : Claim7 := { stood := { row := primAllUptoRow, standIns := [], harness := (true, "8f5ddc6329f86d1fd966a5b307709f3373139346c331cd4183edd929d5b2e677"), looks := false }, kinds := [], alts := [], laidByText := true, laidKinds := [.data, .pinned], laidTests := true, laidLooks := .later }
def PrimAllUptoCardSaid : Prop := Claim7.holds Tryz.pinned (.plain (OpenSpec.upto primAllSpec)) primAllUptoCard

/-- THE SECOND FORM's CARD OF 'counterpanelaw08.PrimTree'. -/
def primTreeUptoCard : Claim7 := { stood := { row := primTreeUptoRow, standIns := [], harness := (true, "8f5ddc6329f86d1fd966a5b307709f3373139346c331cd4183edd929d5b2e677"), looks := false }, kinds := [], alts := [], laidByText := true, laidKinds := [.data, .pinned], laidTests := true, laidLooks := .later }
def PrimTreeUptoCardSaid : Prop := Claim7.holds Tryz.pinned (.plain (OpenSpec.upto primTreeSpec)) primTreeUptoCard

/-- THE SECOND FORM's CARD OF 'counterpanelaw08.PrimCounts'. -/
def primCountsUptoCard : Claim7 := { stood := { row := primCountsUptoRow, standIns := [], harness := (true, "8f5ddc6329f86d1fd966a5b307709f3373139346c331cd4183edd929d5b2e677"), looks := false }, kinds := [], alts := [], laidByText := true, laidKinds := [.data, .pinned], laidTests := true, laidLooks := .later }
def PrimCountsUptoCardSaid : Prop := Claim7.holds Tryz.pinned (.plain (OpenSpec.upto primCountsSpec)) primCountsUptoCard

/-- THE SECOND FORM's CARD OF 'counterpanelaw08.PrimAdds'. -/
def primAddsUptoCard : Claim7 := { stood := { row := primAddsUptoRow, standIns := [], harness := (true, "8f5ddc6329f86d1fd966a5b307709f3373139346c331cd4183edd929d5b2e677"), looks := false }, kinds := [], alts := [], laidByText := true, laidKinds := [.data, .pinned], laidTests := true, laidLooks := .later }
def PrimAddsUptoCardSaid : Prop := Claim7.holds Tryz.pinned (.plain (OpenSpec.upto primAddsSpec)) primAddsUptoCard

/-- THE SECOND FORM's CARD OF 'counterpanelaw08.PrimLines'. -/
def primLinesUptoCard : Claim7 := { stood := { row := primLinesUptoRow, standIns := [], harness := (true, "8f5ddc6329f86d1fd966a5b307709f3373139346c331cd4183edd929d5b2e677"), looks := false }, kinds := [], alts := [], laidByText := true, laidKinds := [.data, .pinned], laidTests := true, laidLooks := .later }
def PrimLinesUptoCardSaid : Prop := Claim7.holds Tryz.pinned (.plain (OpenSpec.upto primLinesSpec)) primLinesUptoCard
end Rows
end Go.Proofs.YtcpjneejlfgkeaaGreatDoor
