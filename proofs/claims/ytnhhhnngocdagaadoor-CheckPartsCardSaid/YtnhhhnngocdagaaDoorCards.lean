/-
  DERIVED. GIVEN WITH THE SEED: THE CARDS: each row of YtnhhhnngocdagaaDoorRows.lean that lists a variable, with what it lists TIED to the program's text (the seventh form; the later family's looks); each row that meets fmt, with fmt's text TOLD by the authors' own Lean function (tested against real Go, not proved from fmt's source: count such statements apart). THE CARD IS WHAT COUNTS. Prove the row's statement (the work); the ties are given (YtnhhhnngocdagaaDoorTie.lean); close each card by the builder's one call (the guide's Derived/Test/ToyasCard.lean, 'card_holds'). Laid BY PROGRAM, IN A SANDBOX (cutbox-door.mjs). By AI agents, Wed Nov 11 2026. No macro, syntax, notation, axiom, sorry.
-/
import Derived.Test.YtnhhhnngocdagaaDoorRows
import GoSem.ClaimSeven
namespace Go.Proofs.YtnhhhnngocdagaaDoor
namespace Rows

/-- THE TIED CARD OF 'poundagelaw09.CheckParts'. -/
def checkPartsCard : Claim7 := { stood := { row := checkPartsRow, standIns := [], harness := (true, "38bfe646e13e10fe68337a33f4e63228cfe78c9ec8bfa2aea7fd448f63456076"), looks := false }, kinds := [], alts := [], laidByText := true, laidKinds := [.data, .data, .data], laidTests := true, laidLooks := .later }
def CheckPartsCardSaid : Prop := Claim7.holds Tryd.pinned (.plain (OpenSpec.ofChange checkPartsSpec)) checkPartsCard

/-- THE TIED CARD OF 'poundagelaw09.CheckPlain'. -/
def checkPlainCard : Claim7 := { stood := { row := checkPlainRow, standIns := [], harness := (true, "38bfe646e13e10fe68337a33f4e63228cfe78c9ec8bfa2aea7fd448f63456076"), looks := false }, kinds := [], alts := [], laidByText := true, laidKinds := [.data, .data, .data], laidTests := true, laidLooks := .later }
def CheckPlainCardSaid : Prop := Claim7.holds Tryd.pinned (.plain (OpenSpec.ofChange checkPlainSpec)) checkPlainCard

/-- THE SECOND FORM's CARD OF 'poundagelaw09.CheckParts'. -/
def checkPartsUptoCard : Claim7 := { stood := { row := checkPartsUptoRow, standIns := [], harness := (true, "38bfe646e13e10fe68337a33f4e63228cfe78c9ec8bfa2aea7fd448f63456076"), looks := false }, kinds := [], alts := [], laidByText := true, laidKinds := [.data, .data, .data], laidTests := true, laidLooks := .later }
def CheckPartsUptoCardSaid : Prop := Claim7.holds Tryd.pinned (.plain (OpenSpec.upto checkPartsSpec)) checkPartsUptoCard

/-- THE SECOND FORM's CARD OF 'poundagelaw09.CheckPlain'. -/
def checkPlainUptoCard : Claim7 := { stood := { row := checkPlainUptoRow, standIns := [], harness := (true, "38bfe646e13e10fe68337a33f4e63228cfe78c9ec8bfa2aea7fd448f63456076"), looks := false }, kinds := [], alts := [], laidByText := true, laidKinds := [.data, .data, .data], laidTests := true, laidLooks := .later }
def CheckPlainUptoCardSaid : Prop := Claim7.holds Tryd.pinned (.plain (OpenSpec.upto checkPlainSpec)) checkPlainUptoCard
end Rows
end Go.Proofs.YtnhhhnngocdagaaDoor
