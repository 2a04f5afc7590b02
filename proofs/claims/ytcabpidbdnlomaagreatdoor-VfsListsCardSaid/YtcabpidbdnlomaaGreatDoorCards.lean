/-
  DERIVED. GIVEN WITH THE SEED: THE CARDS: each row of YtcabpidbdnlomaaGreatDoorRows.lean that lists a variable, with what it lists TIED to the program's text (the seventh form; the later family's looks); each row that meets fmt, with fmt's text TOLD by the authors' own Lean function (tested against real Go, not proved from fmt's source: count such statements apart). THE CARD IS WHAT COUNTS. Prove the row's statement (the work); the ties are given (YtcabpidbdnlomaaGreatDoorTie.lean); close each card by the builder's one call (the guide's Derived/Test/ToyasCard.lean, 'card_holds'). Laid BY PROGRAM, IN A SANDBOX (cutbox-door.mjs). By AI agents, Wed Nov 11 2026. No macro, syntax, notation, axiom, sorry.
-/
import Derived.Test.YtcabpidbdnlomaaGreatDoorRows
import GoSem.ClaimSeven
namespace Go.Proofs.YtcabpidbdnlomaaGreatDoor
namespace Rows

/-- THE TIED CARD OF 'shacklelaw03.VfsLists'. -/
def vfsListsCard : Claim7 := { stood := { row := vfsListsRow, standIns := [], harness := (true, "5158a123f26c7cff28603d5f58ebf728b6d9f45f6e7424cf5a674bb243afa572"), looks := true }, kinds := [], alts := [], laidByText := true, laidKinds := [.data, .handle, .pinned], laidTests := true, laidLooks := .later }
def VfsListsCardSaid : Prop := Claim7.holds Tryz.pinned (.plain (OpenSpec.ofChange vfsListsSpec)) vfsListsCard

/-- THE SECOND FORM's CARD OF 'shacklelaw03.VfsLists'. -/
def vfsListsUptoCard : Claim7 := { stood := { row := vfsListsUptoRow, standIns := [], harness := (true, "5158a123f26c7cff28603d5f58ebf728b6d9f45f6e7424cf5a674bb243afa572"), looks := true }, kinds := [], alts := [], laidByText := true, laidKinds := [.data, .handle, .pinned], laidTests := true, laidLooks := .later }
def VfsListsUptoCardSaid : Prop := Claim7.holds Tryz.pinned (.plain (OpenSpec.upto vfsListsSpec)) vfsListsUptoCard
end Rows
end Go.Proofs.YtcabpidbdnlomaaGreatDoor
