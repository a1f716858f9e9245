/-
  DERIVED. GIVEN WITH THE SEED: THE CARDS: each row of YtpmhfigaeoaddaaGreatDoorRows.lean that lists a variable, with what it lists TIED to the program's text (the seventh form; the later family's looks); each row that meets fmt, with fmt's text TOLD by the authors' own Lean function (tested against real Go, not proved from fmt's source: count such statements apart). THE CARD IS WHAT COUNTS. Prove the row's statement (the work); the ties are given (YtpmhfigaeoaddaaGreatDoorTie.lean); close each card by the builder's one call (the guide's Derived/Test/ToyasCard.lean, 'card_holds'). Laid BY PROGRAM, IN A SANDBOX (cutbox-door.mjs). By AI agents, Wed Nov 11 2026. No macro, syntax, notation, axiom, sorry.
-/
import Derived.Test.YtpmhfigaeoaddaaGreatDoorRows
import GoSem.ClaimSeven
namespace Go.Proofs.YtpmhfigaeoaddaaGreatDoor
namespace Rows

/-- THE TIED CARD OF 'counterpanelaw09.InvertTwice'. -/
def invertTwiceCard : Claim7 := { stood := { row := invertTwiceRow, standIns := [], harness := (true, "7935a9373ffc4fd8beff885d6980f62f21fef79a8e9f0eb741418301ccaca046"), looks := false }, kinds := [], alts := [], laidByText := true, laidKinds := [.data, .pinned], laidTests := true, laidLooks := .later }
def InvertTwiceCardSaid : Prop := Claim7.holds Tryz.pinned (.plain (OpenSpec.ofChange invertTwiceSpec)) invertTwiceCard

/-- THE SECOND FORM's CARD OF 'counterpanelaw09.InvertTwice'. -/
def invertTwiceUptoCard : Claim7 := { stood := { row := invertTwiceUptoRow, standIns := [], harness := (true, "7935a9373ffc4fd8beff885d6980f62f21fef79a8e9f0eb741418301ccaca046"), looks := false }, kinds := [], alts := [], laidByText := true, laidKinds := [.data, .pinned], laidTests := true, laidLooks := .later }
def InvertTwiceUptoCardSaid : Prop := Claim7.holds Tryz.pinned (.plain (OpenSpec.upto invertTwiceSpec)) invertTwiceUptoCard
end Rows
end Go.Proofs.YtpmhfigaeoaddaaGreatDoor
