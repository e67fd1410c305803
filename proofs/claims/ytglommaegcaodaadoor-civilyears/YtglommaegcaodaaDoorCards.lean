/-
  DERIVED. GIVEN WITH THE SEED: THE CARDS: each row of YtglommaegcaodaaDoorRows.lean that lists a variable, with what it lists TIED to the program's text (the seventh form; the later family's looks); each row that meets fmt, with fmt's text TOLD by the authors' own Lean function (tested against real Go, not proved from fmt's source: count such statements apart). THE CARD IS WHAT COUNTS. Prove the row's statement (the work); the ties are given (YtglommaegcaodaaDoorTie.lean); close each card by the builder's one call (the guide's Derived/Test/ToyasCard.lean, 'card_holds'). Laid BY PROGRAM, IN A SANDBOX (cutbox-door.mjs). By AI agents, Wed Nov 11 2026. No macro, syntax, notation, axiom, sorry.
-/
import Derived.Test.YtglommaegcaodaaDoorRows
import GoSem.ClaimSeven
namespace Go.Proofs.YtglommaegcaodaaDoor
namespace Rows

/-- THE TIED CARD OF 'hourglasslaw4.CivilKnown'. -/
def civilKnownCard : Claim7 := { stood := { row := civilKnownRow, standIns := [], harness := (true, "7af20c8ded581e57e2cc45ba6f6943f52ac148cc54ff3c745e407801333bdc18"), looks := true }, kinds := [], alts := [], laidByText := true, laidKinds := [.data, .data, .data, .sentinel, .sentinel], laidTests := true, laidLooks := .later }
def CivilKnownCardSaid : Prop := Claim7.holds Tryd.pinned (.plain (OpenSpec.ofChange civilKnownSpec)) civilKnownCard

/-- THE TIED CARD OF 'hourglasslaw4.CivilSays'. -/
def civilSaysCard : Claim7 := { stood := { row := civilSaysRow, standIns := [], harness := (true, "7af20c8ded581e57e2cc45ba6f6943f52ac148cc54ff3c745e407801333bdc18"), looks := true }, kinds := [], alts := [], laidByText := true, laidKinds := [.data, .data, .data], laidTests := true, laidLooks := .later }
def CivilSaysCardSaid : Prop := Claim7.holds Tryd.pinned (.plain (OpenSpec.ofChange civilSaysSpec)) civilSaysCard

/-- THE TIED CARD OF 'hourglasslaw4.CivilReads'. -/
def civilReadsCard : Claim7 := { stood := { row := civilReadsRow, standIns := [], harness := (true, "7af20c8ded581e57e2cc45ba6f6943f52ac148cc54ff3c745e407801333bdc18"), looks := true }, kinds := [], alts := [], laidByText := true, laidKinds := [.data, .data, .data, .sentinel, .sentinel], laidTests := true, laidLooks := .later }
def CivilReadsCardSaid : Prop := Claim7.holds Tryd.pinned (.plain (OpenSpec.ofChange civilReadsSpec)) civilReadsCard

/-- THE TIED CARD OF 'hourglasslaw4.CivilBack'. -/
def civilBackCard : Claim7 := { stood := { row := civilBackRow, standIns := [], harness := (true, "7af20c8ded581e57e2cc45ba6f6943f52ac148cc54ff3c745e407801333bdc18"), looks := true }, kinds := [], alts := [], laidByText := true, laidKinds := [.data, .data, .data, .sentinel, .sentinel], laidTests := true, laidLooks := .later }
def CivilBackCardSaid : Prop := Claim7.holds Tryd.pinned (.plain (OpenSpec.ofChange civilBackSpec)) civilBackCard

/-- THE TIED CARD OF 'hourglasslaw4.CivilNext'. -/
def civilNextCard : Claim7 := { stood := { row := civilNextRow, standIns := [], harness := (true, "7af20c8ded581e57e2cc45ba6f6943f52ac148cc54ff3c745e407801333bdc18"), looks := true }, kinds := [], alts := [], laidByText := true, laidKinds := [.data, .data, .data], laidTests := true, laidLooks := .later }
def CivilNextCardSaid : Prop := Claim7.holds Tryd.pinned (.plain (OpenSpec.ofChange civilNextSpec)) civilNextCard

/-- THE TIED CARD OF 'hourglasslaw4.CivilYears'. -/
def civilYearsCard : Claim7 := { stood := { row := civilYearsRow, standIns := [], harness := (true, "7af20c8ded581e57e2cc45ba6f6943f52ac148cc54ff3c745e407801333bdc18"), looks := true }, kinds := [], alts := [], laidByText := true, laidKinds := [.data, .data, .data], laidTests := true, laidLooks := .later }
def CivilYearsCardSaid : Prop := Claim7.holds Tryd.pinned (.plain (OpenSpec.ofChange civilYearsSpec)) civilYearsCard

/-- THE SECOND FORM's CARD OF 'hourglasslaw4.CivilKnown'. -/
def civilKnownUptoCard : Claim7 := { stood := { row := civilKnownUptoRow, standIns := [], harness := (true, "7af20c8ded581e57e2cc45ba6f6943f52ac148cc54ff3c745e407801333bdc18"), looks := true }, kinds := [], alts := [], laidByText := true, laidKinds := [.data, .data, .data, .sentinel, .sentinel], laidTests := true, laidLooks := .later }
def CivilKnownUptoCardSaid : Prop := Claim7.holds Tryd.pinned (.plain (OpenSpec.upto civilKnownSpec)) civilKnownUptoCard

/-- THE SECOND FORM's CARD OF 'hourglasslaw4.CivilSays'. -/
def civilSaysUptoCard : Claim7 := { stood := { row := civilSaysUptoRow, standIns := [], harness := (true, "7af20c8ded581e57e2cc45ba6f6943f52ac148cc54ff3c745e407801333bdc18"), looks := true }, kinds := [], alts := [], laidByText := true, laidKinds := [.data, .data, .data], laidTests := true, laidLooks := .later }
def CivilSaysUptoCardSaid : Prop := Claim7.holds Tryd.pinned (.plain (OpenSpec.upto civilSaysSpec)) civilSaysUptoCard

/-- THE SECOND FORM's CARD OF 'hourglasslaw4.CivilReads'. -/
def civilReadsUptoCard : Claim7 := { stood := { row := civilReadsUptoRow, standIns := [], harness := (true, "7af20c8ded581e57e2cc45ba6f6943f52ac148cc54ff3c745e407801333bdc18"), looks := true }, kinds := [], alts := [], laidByText := true, laidKinds := [.data, .data, .data, .sentinel, .sentinel], laidTests := true, laidLooks := .later }
def CivilReadsUptoCardSaid : Prop := Claim7.holds Tryd.pinned (.plain (OpenSpec.upto civilReadsSpec)) civilReadsUptoCard

/-- THE SECOND FORM's CARD OF 'hourglasslaw4.CivilBack'. -/
def civilBackUptoCard : Claim7 := { stood := { row := civilBackUptoRow, standIns := [], harness := (true, "7af20c8ded581e57e2cc45ba6f6943f52ac148cc54ff3c745e407801333bdc18"), looks := true }, kinds := [], alts := [], laidByText := true, laidKinds := [.data, .data, .data, .sentinel, .sentinel], laidTests := true, laidLooks := .later }
def CivilBackUptoCardSaid : Prop := Claim7.holds Tryd.pinned (.plain (OpenSpec.upto civilBackSpec)) civilBackUptoCard

/-- THE SECOND FORM's CARD OF 'hourglasslaw4.CivilNext'. -/
def civilNextUptoCard : Claim7 := { stood := { row := civilNextUptoRow, standIns := [], harness := (true, "7af20c8ded581e57e2cc45ba6f6943f52ac148cc54ff3c745e407801333bdc18"), looks := true }, kinds := [], alts := [], laidByText := true, laidKinds := [.data, .data, .data], laidTests := true, laidLooks := .later }
def CivilNextUptoCardSaid : Prop := Claim7.holds Tryd.pinned (.plain (OpenSpec.upto civilNextSpec)) civilNextUptoCard

/-- THE SECOND FORM's CARD OF 'hourglasslaw4.CivilYears'. -/
def civilYearsUptoCard : Claim7 := { stood := { row := civilYearsUptoRow, standIns := [], harness := (true, "7af20c8ded581e57e2cc45ba6f6943f52ac148cc54ff3c745e407801333bdc18"), looks := true }, kinds := [], alts := [], laidByText := true, laidKinds := [.data, .data, .data], laidTests := true, laidLooks := .later }
def CivilYearsUptoCardSaid : Prop := Claim7.holds Tryd.pinned (.plain (OpenSpec.upto civilYearsSpec)) civilYearsUptoCard
end Rows
end Go.Proofs.YtglommaegcaodaaDoor
