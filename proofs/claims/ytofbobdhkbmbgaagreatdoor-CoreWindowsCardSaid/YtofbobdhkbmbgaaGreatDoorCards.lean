/-
  DERIVED. GIVEN WITH THE SEED: THE CARDS: each row of YtofbobdhkbmbgaaGreatDoorRows.lean that lists a variable, with what it lists TIED to the program's text (the seventh form; the later family's looks); each row that meets fmt, with fmt's text TOLD by the authors' own Lean function (tested against real Go, not proved from fmt's source: count such statements apart). THE CARD IS WHAT COUNTS. Prove the row's statement (the work); the ties are given (YtofbobdhkbmbgaaGreatDoorTie.lean); close each card by the builder's one call (the guide's Derived/Test/ToyasCard.lean, 'card_holds'). Laid BY PROGRAM, IN A SANDBOX (cutbox-door.mjs). By AI agents, Wed Nov 11 2026. No macro, syntax, notation, axiom, sorry.
-/
import Derived.Test.YtofbobdhkbmbgaaGreatDoorRows
import GoSem.ClaimSeven
namespace Go.Proofs.YtofbobdhkbmbgaaGreatDoor
namespace Rows

/-- THE TIED CARD OF 'poundagelaw10.CoreReads'. -/
def coreReadsCard : Claim7 := { stood := { row := coreReadsRow, standIns := [], harness := (true, "9a6bb1b15038400e77748d9c37b54305776a1ce5a19442144303903af7087d73"), looks := false }, kinds := [], alts := [], laidByText := true, laidKinds := [.data], laidTests := true, laidLooks := .later }
def CoreReadsCardSaid : Prop := Claim7.holds Tryz.pinned (.plain (OpenSpec.ofChange coreReadsSpec)) coreReadsCard

/-- THE TIED CARD OF 'poundagelaw10.CoreCan'. -/
def coreCanCard : Claim7 := { stood := { row := coreCanRow, standIns := [], harness := (true, "9a6bb1b15038400e77748d9c37b54305776a1ce5a19442144303903af7087d73"), looks := false }, kinds := [], alts := [], laidByText := true, laidKinds := [.data], laidTests := true, laidLooks := .later }
def CoreCanCardSaid : Prop := Claim7.holds Tryz.pinned (.plain (OpenSpec.ofChange coreCanSpec)) coreCanCard

/-- THE TIED CARD OF 'poundagelaw10.CoreMakes'. -/
def coreMakesCard : Claim7 := { stood := { row := coreMakesRow, standIns := [], harness := (true, "9a6bb1b15038400e77748d9c37b54305776a1ce5a19442144303903af7087d73"), looks := false }, kinds := [], alts := [], laidByText := true, laidKinds := [.data, .data, .data, .data], laidTests := true, laidLooks := .later }
def CoreMakesCardSaid : Prop := Claim7.holds Tryz.pinned (.plain (OpenSpec.ofChange coreMakesSpec)) coreMakesCard

/-- THE TIED CARD OF 'poundagelaw10.CoreNames'. -/
def coreNamesCard : Claim7 := { stood := { row := coreNamesRow, standIns := [], harness := (true, "9a6bb1b15038400e77748d9c37b54305776a1ce5a19442144303903af7087d73"), looks := false }, kinds := [], alts := [], laidByText := true, laidKinds := [.data, .data, .data, .data], laidTests := true, laidLooks := .later }
def CoreNamesCardSaid : Prop := Claim7.holds Tryz.pinned (.plain (OpenSpec.ofChange coreNamesSpec)) coreNamesCard

/-- THE TIED CARD OF 'poundagelaw10.CoreWindows'. -/
def coreWindowsCard : Claim7 := { stood := { row := coreWindowsRow, standIns := [], harness := (true, "9a6bb1b15038400e77748d9c37b54305776a1ce5a19442144303903af7087d73"), looks := false }, kinds := [], alts := [], laidByText := true, laidKinds := [.data, .data, .data, .data], laidTests := true, laidLooks := .later }
def CoreWindowsCardSaid : Prop := Claim7.holds Tryz.pinned (.plain (OpenSpec.ofChange coreWindowsSpec)) coreWindowsCard

/-- THE SECOND FORM's CARD OF 'poundagelaw10.CoreReads'. -/
def coreReadsUptoCard : Claim7 := { stood := { row := coreReadsUptoRow, standIns := [], harness := (true, "9a6bb1b15038400e77748d9c37b54305776a1ce5a19442144303903af7087d73"), looks := false }, kinds := [], alts := [], laidByText := true, laidKinds := [.data], laidTests := true, laidLooks := .later }
def CoreReadsUptoCardSaid : Prop := Claim7.holds Tryz.pinned (.plain (OpenSpec.upto coreReadsSpec)) coreReadsUptoCard

/-- THE SECOND FORM's CARD OF 'poundagelaw10.CoreCan'. -/
def coreCanUptoCard : Claim7 := { stood := { row := coreCanUptoRow, standIns := [], harness := (true, "9a6bb1b15038400e77748d9c37b54305776a1ce5a19442144303903af7087d73"), looks := false }, kinds := [], alts := [], laidByText := true, laidKinds := [.data], laidTests := true, laidLooks := .later }
def CoreCanUptoCardSaid : Prop := Claim7.holds Tryz.pinned (.plain (OpenSpec.upto coreCanSpec)) coreCanUptoCard

/-- THE SECOND FORM's CARD OF 'poundagelaw10.CoreMakes'. -/
def coreMakesUptoCard : Claim7 := { stood := { row := coreMakesUptoRow, standIns := [], harness := (true, "9a6bb1b15038400e77748d9c37b54305776a1ce5a19442144303903af7087d73"), looks := false }, kinds := [], alts := [], laidByText := true, laidKinds := [.data, .data, .data, .data], laidTests := true, laidLooks := .later }
def CoreMakesUptoCardSaid : Prop := Claim7.holds Tryz.pinned (.plain (OpenSpec.upto coreMakesSpec)) coreMakesUptoCard

/-- THE SECOND FORM's CARD OF 'poundagelaw10.CoreNames'. -/
def coreNamesUptoCard : Claim7 := { stood := { row := coreNamesUptoRow, standIns := [], harness := (true, "9a6bb1b15038400e77748d9c37b54305776a1ce5a19442144303903af7087d73"), looks := false }, kinds := [], alts := [], laidByText := true, laidKinds := [.data, .data, .data, .data], laidTests := true, laidLooks := .later }
def CoreNamesUptoCardSaid : Prop := Claim7.holds Tryz.pinned (.plain (OpenSpec.upto coreNamesSpec)) coreNamesUptoCard

/-- THE SECOND FORM's CARD OF 'poundagelaw10.CoreWindows'. -/
def coreWindowsUptoCard : Claim7 := { stood := { row := coreWindowsUptoRow, standIns := [], harness := (true, "9a6bb1b15038400e77748d9c37b54305776a1ce5a19442144303903af7087d73"), looks := false }, kinds := [], alts := [], laidByText := true, laidKinds := [.data, .data, .data, .data], laidTests := true, laidLooks := .later }
def CoreWindowsUptoCardSaid : Prop := Claim7.holds Tryz.pinned (.plain (OpenSpec.upto coreWindowsSpec)) coreWindowsUptoCard
end Rows
end Go.Proofs.YtofbobdhkbmbgaaGreatDoor
