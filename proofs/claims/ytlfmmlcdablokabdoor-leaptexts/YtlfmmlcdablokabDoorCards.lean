/-
  DERIVED. GIVEN WITH THE SEED: THE CARDS: each row of YtlfmmlcdablokabDoorRows.lean that lists a variable, with what it lists TIED to the program's text (the seventh form; the later family's looks); each row that meets fmt, with fmt's text TOLD by the authors' own Lean function (tested against real Go, not proved from fmt's source: count such statements apart). THE CARD IS WHAT COUNTS. Prove the row's statement (the work); the ties are given (YtlfmmlcdablokabDoorTie.lean); close each card by the builder's one call (the guide's Derived/Test/ToyasCard.lean, 'card_holds'). Laid BY PROGRAM, IN A SANDBOX (cutbox-door.mjs). By AI agents, Wed Nov 11 2026. No macro, syntax, notation, axiom, sorry.
-/
import Derived.Test.YtlfmmlcdablokabDoorRows
import GoSem.ClaimSeven
namespace Go.Proofs.YtlfmmlcdablokabDoor
namespace Rows

/-- THE TIED CARD OF 'hourglasslaw5.LeapTexts'. -/
def leapTextsCard : Claim7 := { stood := { row := leapTextsRow, standIns := [], harness := (true, "fec1e56c4630047d243971e979be429667c59819bbfc65ecf5f3f8fd1795eaba"), looks := true }, kinds := [], alts := [], laidByText := true, laidKinds := [.data, .data, .data, .sentinel, .sentinel], laidTests := true, laidLooks := .later }
def LeapTextsCardSaid : Prop := Claim7.holds Tryd.pinned (.plain (OpenSpec.ofChange leapTextsSpec)) leapTextsCard

/-- THE TIED CARD OF 'hourglasslaw5.LeapPlain'. -/
def leapPlainCard : Claim7 := { stood := { row := leapPlainRow, standIns := [], harness := (true, "fec1e56c4630047d243971e979be429667c59819bbfc65ecf5f3f8fd1795eaba"), looks := true }, kinds := [], alts := [], laidByText := true, laidKinds := [.data, .data, .data, .sentinel, .sentinel], laidTests := true, laidLooks := .later }
def LeapPlainCardSaid : Prop := Claim7.holds Tryd.pinned (.plain (OpenSpec.ofChange leapPlainSpec)) leapPlainCard

/-- THE SECOND FORM's CARD OF 'hourglasslaw5.LeapTexts'. -/
def leapTextsUptoCard : Claim7 := { stood := { row := leapTextsUptoRow, standIns := [], harness := (true, "fec1e56c4630047d243971e979be429667c59819bbfc65ecf5f3f8fd1795eaba"), looks := true }, kinds := [], alts := [], laidByText := true, laidKinds := [.data, .data, .data, .sentinel, .sentinel], laidTests := true, laidLooks := .later }
def LeapTextsUptoCardSaid : Prop := Claim7.holds Tryd.pinned (.plain (OpenSpec.upto leapTextsSpec)) leapTextsUptoCard

/-- THE SECOND FORM's CARD OF 'hourglasslaw5.LeapPlain'. -/
def leapPlainUptoCard : Claim7 := { stood := { row := leapPlainUptoRow, standIns := [], harness := (true, "fec1e56c4630047d243971e979be429667c59819bbfc65ecf5f3f8fd1795eaba"), looks := true }, kinds := [], alts := [], laidByText := true, laidKinds := [.data, .data, .data, .sentinel, .sentinel], laidTests := true, laidLooks := .later }
def LeapPlainUptoCardSaid : Prop := Claim7.holds Tryd.pinned (.plain (OpenSpec.upto leapPlainSpec)) leapPlainUptoCard
end Rows
end Go.Proofs.YtlfmmlcdablokabDoor
