/-
  DERIVED. GIVEN WITH THE SEED: THE CARDS: each row of YtmnjkaimpejohaaGreatDoorRows.lean that lists a variable, with what it lists TIED to the program's text (the seventh form; the later family's looks); each row that meets fmt, with fmt's text TOLD by the authors' own Lean function (tested against real Go, not proved from fmt's source: count such statements apart). THE CARD IS WHAT COUNTS. Prove the row's statement (the work); the ties are given (YtmnjkaimpejohaaGreatDoorTie.lean); close each card by the builder's one call (the guide's Derived/Test/ToyasCard.lean, 'card_holds'). Laid BY PROGRAM, IN A SANDBOX (cutbox-door.mjs). By AI agents, Wed Nov 11 2026. No macro, syntax, notation, axiom, sorry.
-/
import Derived.Test.YtmnjkaimpejohaaGreatDoorRows
import GoSem.ClaimSeven
namespace Go.Proofs.YtmnjkaimpejohaaGreatDoor
namespace Rows

/-- THE TIED CARD OF 'shacklelaw13.ExecNil'. -/
def execNilCard : Claim7 := { stood := { row := execNilRow, standIns := [], harness := (true, "6d00f5af28eae8bc8da6fe9601d4a98a6a20cadc2aca2c29bed878a2a6bc8d49"), looks := true }, kinds := [], alts := [], laidByText := true, laidKinds := [.handle], laidTests := true, laidLooks := .later }
def ExecNilCardSaid : Prop := Claim7.holds Tryz.pinned (.plain (OpenSpec.ofChange execNilSpec)) execNilCard

/-- THE TIED CARD OF 'shacklelaw13.ExecTests'. -/
def execTestsCard : Claim7 := { stood := { row := execTestsRow, standIns := [], harness := (true, "6d00f5af28eae8bc8da6fe9601d4a98a6a20cadc2aca2c29bed878a2a6bc8d49"), looks := true }, kinds := [], alts := [], laidByText := true, laidKinds := [.handle], laidTests := true, laidLooks := .later }
def ExecTestsCardSaid : Prop := Claim7.holds Tryz.pinned (.plain (OpenSpec.ofChange execTestsSpec)) execTestsCard

/-- THE SECOND FORM's CARD OF 'shacklelaw13.ExecNil'. -/
def execNilUptoCard : Claim7 := { stood := { row := execNilUptoRow, standIns := [], harness := (true, "6d00f5af28eae8bc8da6fe9601d4a98a6a20cadc2aca2c29bed878a2a6bc8d49"), looks := true }, kinds := [], alts := [], laidByText := true, laidKinds := [.handle], laidTests := true, laidLooks := .later }
def ExecNilUptoCardSaid : Prop := Claim7.holds Tryz.pinned (.plain (OpenSpec.upto execNilSpec)) execNilUptoCard

/-- THE SECOND FORM's CARD OF 'shacklelaw13.ExecTests'. -/
def execTestsUptoCard : Claim7 := { stood := { row := execTestsUptoRow, standIns := [], harness := (true, "6d00f5af28eae8bc8da6fe9601d4a98a6a20cadc2aca2c29bed878a2a6bc8d49"), looks := true }, kinds := [], alts := [], laidByText := true, laidKinds := [.handle], laidTests := true, laidLooks := .later }
def ExecTestsUptoCardSaid : Prop := Claim7.holds Tryz.pinned (.plain (OpenSpec.upto execTestsSpec)) execTestsUptoCard
end Rows
end Go.Proofs.YtmnjkaimpejohaaGreatDoor
