/-
  DERIVED. GIVEN WITH THE SEED: THE CARDS: each row of YtpblgbegdfdgdaaDoorRows.lean that lists a variable, with what it lists TIED to the program's text (the seventh form; the later family's looks); each row that meets fmt, with fmt's text TOLD by the authors' own Lean function (tested against real Go, not proved from fmt's source: count such statements apart). THE CARD IS WHAT COUNTS. Prove the row's statement (the work); the ties are given (YtpblgbegdfdgdaaDoorTie.lean); close each card by the builder's one call (the guide's Derived/Test/ToyasCard.lean, 'card_holds'). Laid BY PROGRAM, IN A SANDBOX (cutbox-door.mjs). By AI agents, Wed Nov 11 2026. No macro, syntax, notation, axiom, sorry.
-/
import Derived.Test.YtpblgbegdfdgdaaDoorRows
import GoSem.ClaimSeven
namespace Go.Proofs.YtpblgbegdfdgdaaDoor
namespace Rows

/-- THE TIED CARD OF 'shacklelaw03.VfsReal'. -/
def vfsRealCard : Claim7 := { stood := { row := vfsRealRow, standIns := [], harness := (true, "499a52b67a55984fe2d4525950bfc2e3b3118be242109a7348349bc3b648768e"), looks := true }, kinds := [], alts := [], laidByText := true, laidKinds := [.data, .handle, .pinned], laidTests := true, laidLooks := .later }
def VfsRealCardSaid : Prop := Claim7.holds Tryd.pinned (.plain (OpenSpec.ofChange vfsRealSpec)) vfsRealCard

/-- THE SECOND FORM's CARD OF 'shacklelaw03.VfsReal'. -/
def vfsRealUptoCard : Claim7 := { stood := { row := vfsRealUptoRow, standIns := [], harness := (true, "499a52b67a55984fe2d4525950bfc2e3b3118be242109a7348349bc3b648768e"), looks := true }, kinds := [], alts := [], laidByText := true, laidKinds := [.data, .handle, .pinned], laidTests := true, laidLooks := .later }
def VfsRealUptoCardSaid : Prop := Claim7.holds Tryd.pinned (.plain (OpenSpec.upto vfsRealSpec)) vfsRealUptoCard
end Rows
end Go.Proofs.YtpblgbegdfdgdaaDoor
