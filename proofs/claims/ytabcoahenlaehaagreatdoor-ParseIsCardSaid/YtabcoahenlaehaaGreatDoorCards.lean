/-
  DERIVED. GIVEN WITH THE SEED: THE CARDS: each row of YtabcoahenlaehaaGreatDoorRows.lean that lists a variable, with what it lists TIED to the program's text (the seventh form; the later family's looks); each row that meets fmt, with fmt's text TOLD by the authors' own Lean function (tested against real Go, not proved from fmt's source: count such statements apart). THE CARD IS WHAT COUNTS. Prove the row's statement (the work); the ties are given (YtabcoahenlaehaaGreatDoorTie.lean); close each card by the builder's one call (the guide's Derived/Test/ToyasCard.lean, 'card_holds'). Laid BY PROGRAM, IN A SANDBOX (cutbox-door.mjs). By AI agents, Wed Nov 11 2026. No macro, syntax, notation, axiom, sorry.
-/
import Derived.Test.YtabcoahenlaehaaGreatDoorRows
import GoSem.ClaimSeven
namespace Go.Proofs.YtabcoahenlaehaaGreatDoor
namespace Rows

/-- THE TIED CARD OF 'poundagelaw07.ParseIs'. -/
def parseIsCard : Claim7 := { stood := { row := parseIsRow, standIns := [], harness := (true, "dccfede69554be7003c65b83845a6b161cef4089cc12095c28451592544b1b8f"), looks := false }, kinds := [], alts := [], laidByText := true, laidKinds := [.data], laidTests := true, laidLooks := .later }
def ParseIsCardSaid : Prop := Claim7.holds Tryz.pinned (.plain (OpenSpec.ofChange parseIsSpec)) parseIsCard

/-- THE SECOND FORM's CARD OF 'poundagelaw07.ParseIs'. -/
def parseIsUptoCard : Claim7 := { stood := { row := parseIsUptoRow, standIns := [], harness := (true, "dccfede69554be7003c65b83845a6b161cef4089cc12095c28451592544b1b8f"), looks := false }, kinds := [], alts := [], laidByText := true, laidKinds := [.data], laidTests := true, laidLooks := .later }
def ParseIsUptoCardSaid : Prop := Claim7.holds Tryz.pinned (.plain (OpenSpec.upto parseIsSpec)) parseIsUptoCard
end Rows
end Go.Proofs.YtabcoahenlaehaaGreatDoor
