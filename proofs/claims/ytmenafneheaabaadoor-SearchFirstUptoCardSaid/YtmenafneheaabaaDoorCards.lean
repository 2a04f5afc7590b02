/-
  DERIVED. GIVEN WITH THE SEED: THE CARDS: each row of YtmenafneheaabaaDoorRows.lean that lists a variable, with what it lists TIED to the program's text (the seventh form; the later family's looks); each row that meets fmt, with fmt's text TOLD by the authors' own Lean function (tested against real Go, not proved from fmt's source: count such statements apart). THE CARD IS WHAT COUNTS. Prove the row's statement (the work); the ties are given (YtmenafneheaabaaDoorTie.lean); close each card by the builder's one call (the guide's Derived/Test/ToyasCard.lean, 'card_holds'). Laid BY PROGRAM, IN A SANDBOX (cutbox-door.mjs). By AI agents, Wed Nov 11 2026. No macro, syntax, notation, axiom, sorry.
-/
import Derived.Test.YtmenafneheaabaaDoorRows
import GoSem.ClaimSeven
namespace Go.Proofs.YtmenafneheaabaaDoor
namespace Rows

/-- THE TIED CARD OF 'shacklelaw14.SearchSecure'. -/
def searchSecureCard : Claim7 := { stood := { row := searchSecureRow, standIns := [], harness := (true, "8846cbda67dddd36a98bf3f0888927aad5031270d897080d68130be035f3ec2f"), looks := true }, kinds := [], alts := [], laidByText := true, laidKinds := [.data, .pinned], laidTests := true, laidLooks := .later }
def SearchSecureCardSaid : Prop := Claim7.holds Tryd.pinned (.plain (OpenSpec.ofChange searchSecureSpec)) searchSecureCard

/-- THE TIED CARD OF 'shacklelaw14.SearchFirst'. -/
def searchFirstCard : Claim7 := { stood := { row := searchFirstRow, standIns := [], harness := (true, "8846cbda67dddd36a98bf3f0888927aad5031270d897080d68130be035f3ec2f"), looks := true }, kinds := [], alts := [], laidByText := true, laidKinds := [.data, .pinned], laidTests := true, laidLooks := .later }
def SearchFirstCardSaid : Prop := Claim7.holds Tryd.pinned (.plain (OpenSpec.ofChange searchFirstSpec)) searchFirstCard

/-- THE SECOND FORM's CARD OF 'shacklelaw14.SearchSecure'. -/
def searchSecureUptoCard : Claim7 := { stood := { row := searchSecureUptoRow, standIns := [], harness := (true, "8846cbda67dddd36a98bf3f0888927aad5031270d897080d68130be035f3ec2f"), looks := true }, kinds := [], alts := [], laidByText := true, laidKinds := [.data, .pinned], laidTests := true, laidLooks := .later }
def SearchSecureUptoCardSaid : Prop := Claim7.holds Tryd.pinned (.plain (OpenSpec.upto searchSecureSpec)) searchSecureUptoCard

/-- THE SECOND FORM's CARD OF 'shacklelaw14.SearchFirst'. -/
def searchFirstUptoCard : Claim7 := { stood := { row := searchFirstUptoRow, standIns := [], harness := (true, "8846cbda67dddd36a98bf3f0888927aad5031270d897080d68130be035f3ec2f"), looks := true }, kinds := [], alts := [], laidByText := true, laidKinds := [.data, .pinned], laidTests := true, laidLooks := .later }
def SearchFirstUptoCardSaid : Prop := Claim7.holds Tryd.pinned (.plain (OpenSpec.upto searchFirstSpec)) searchFirstUptoCard
end Rows
end Go.Proofs.YtmenafneheaabaaDoor
