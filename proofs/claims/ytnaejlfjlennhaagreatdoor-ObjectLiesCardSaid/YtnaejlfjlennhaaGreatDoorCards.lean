/-
  DERIVED. GIVEN WITH THE SEED: THE CARDS: each row of YtnaejlfjlennhaaGreatDoorRows.lean that lists a variable, with what it lists TIED to the program's text (the seventh form; the later family's looks); each row that meets fmt, with fmt's text TOLD by the authors' own Lean function (tested against real Go, not proved from fmt's source: count such statements apart). THE CARD IS WHAT COUNTS. Prove the row's statement (the work); the ties are given (YtnaejlfjlennhaaGreatDoorTie.lean); close each card by the builder's one call (the guide's Derived/Test/ToyasCard.lean, 'card_holds'). Laid BY PROGRAM, IN A SANDBOX (cutbox-door.mjs). By AI agents, Wed Nov 11 2026. No macro, syntax, notation, axiom, sorry.
-/
import Derived.Test.YtnaejlfjlennhaaGreatDoorRows
import GoSem.ClaimSeven
namespace Go.Proofs.YtnaejlfjlennhaaGreatDoor
namespace Rows

/-- THE TIED CARD OF 'shacklelaw10.ObjectLies'. -/
def objectLiesCard : Claim7 := { stood := { row := objectLiesRow, standIns := [], harness := (true, "ad45a024f5dc56b4aa213141fc8faed24f099af84bc63216c6c042a398417cac"), looks := true }, kinds := [], alts := [], laidByText := true, laidKinds := [.handle, .data], laidTests := true, laidLooks := .later }
def ObjectLiesCardSaid : Prop := Claim7.holds Tryz.pinned (.plain (OpenSpec.ofChange objectLiesSpec)) objectLiesCard

/-- THE SECOND FORM's CARD OF 'shacklelaw10.ObjectLies'. -/
def objectLiesUptoCard : Claim7 := { stood := { row := objectLiesUptoRow, standIns := [], harness := (true, "ad45a024f5dc56b4aa213141fc8faed24f099af84bc63216c6c042a398417cac"), looks := true }, kinds := [], alts := [], laidByText := true, laidKinds := [.handle, .data], laidTests := true, laidLooks := .later }
def ObjectLiesUptoCardSaid : Prop := Claim7.holds Tryz.pinned (.plain (OpenSpec.upto objectLiesSpec)) objectLiesUptoCard
end Rows
end Go.Proofs.YtnaejlfjlennhaaGreatDoor
