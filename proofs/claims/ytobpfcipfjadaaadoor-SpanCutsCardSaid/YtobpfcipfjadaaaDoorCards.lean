/-
  DERIVED. GIVEN WITH THE SEED: THE CARDS: each row of YtobpfcipfjadaaaDoorRows.lean that lists a variable, with what it lists TIED to the program's text (the seventh form; the later family's looks); each row that meets fmt, with fmt's text TOLD by the authors' own Lean function (tested against real Go, not proved from fmt's source: count such statements apart). THE CARD IS WHAT COUNTS. Prove the row's statement (the work); the ties are given (YtobpfcipfjadaaaDoorTie.lean); close each card by the builder's one call (the guide's Derived/Test/ToyasCard.lean, 'card_holds'). Laid BY PROGRAM, IN A SANDBOX (cutbox-door.mjs). By AI agents, Wed Nov 11 2026. No macro, syntax, notation, axiom, sorry.
-/
import Derived.Test.YtobpfcipfjadaaaDoorRows
import GoSem.ClaimSeven
namespace Go.Proofs.YtobpfcipfjadaaaDoor
namespace Rows

/-- THE TIED CARD OF 'shacklelaw01.SpanCuts'. -/
def spanCutsCard : Claim7 := { stood := { row := spanCutsRow, standIns := [], harness := (true, "59f37f0793cdc459a2b52db6fa7d1aa7b512d80c756ffff1ee2bc7d58b1c8f4d"), looks := true }, kinds := [], alts := [], laidByText := true, laidKinds := [.handle], laidTests := true, laidLooks := .later }
def SpanCutsCardSaid : Prop := Claim7.holds Tryd.pinned (.plain (OpenSpec.ofChange spanCutsSpec)) spanCutsCard

/-- THE TIED CARD OF 'shacklelaw01.SpanNumbers'. -/
def spanNumbersCard : Claim7 := { stood := { row := spanNumbersRow, standIns := [], harness := (true, "59f37f0793cdc459a2b52db6fa7d1aa7b512d80c756ffff1ee2bc7d58b1c8f4d"), looks := true }, kinds := [], alts := [], laidByText := true, laidKinds := [.handle], laidTests := true, laidLooks := .later }
def SpanNumbersCardSaid : Prop := Claim7.holds Tryd.pinned (.plain (OpenSpec.ofChange spanNumbersSpec)) spanNumbersCard

/-- THE TIED CARD OF 'shacklelaw01.SpanTexts'. -/
def spanTextsCard : Claim7 := { stood := { row := spanTextsRow, standIns := [], harness := (true, "59f37f0793cdc459a2b52db6fa7d1aa7b512d80c756ffff1ee2bc7d58b1c8f4d"), looks := true }, kinds := [], alts := [], laidByText := true, laidKinds := [.handle], laidTests := true, laidLooks := .later }
def SpanTextsCardSaid : Prop := Claim7.holds Tryd.pinned (.plain (OpenSpec.ofChange spanTextsSpec)) spanTextsCard

/-- THE SECOND FORM's CARD OF 'shacklelaw01.SpanCuts'. -/
def spanCutsUptoCard : Claim7 := { stood := { row := spanCutsUptoRow, standIns := [], harness := (true, "59f37f0793cdc459a2b52db6fa7d1aa7b512d80c756ffff1ee2bc7d58b1c8f4d"), looks := true }, kinds := [], alts := [], laidByText := true, laidKinds := [.handle], laidTests := true, laidLooks := .later }
def SpanCutsUptoCardSaid : Prop := Claim7.holds Tryd.pinned (.plain (OpenSpec.upto spanCutsSpec)) spanCutsUptoCard

/-- THE SECOND FORM's CARD OF 'shacklelaw01.SpanNumbers'. -/
def spanNumbersUptoCard : Claim7 := { stood := { row := spanNumbersUptoRow, standIns := [], harness := (true, "59f37f0793cdc459a2b52db6fa7d1aa7b512d80c756ffff1ee2bc7d58b1c8f4d"), looks := true }, kinds := [], alts := [], laidByText := true, laidKinds := [.handle], laidTests := true, laidLooks := .later }
def SpanNumbersUptoCardSaid : Prop := Claim7.holds Tryd.pinned (.plain (OpenSpec.upto spanNumbersSpec)) spanNumbersUptoCard

/-- THE SECOND FORM's CARD OF 'shacklelaw01.SpanTexts'. -/
def spanTextsUptoCard : Claim7 := { stood := { row := spanTextsUptoRow, standIns := [], harness := (true, "59f37f0793cdc459a2b52db6fa7d1aa7b512d80c756ffff1ee2bc7d58b1c8f4d"), looks := true }, kinds := [], alts := [], laidByText := true, laidKinds := [.handle], laidTests := true, laidLooks := .later }
def SpanTextsUptoCardSaid : Prop := Claim7.holds Tryd.pinned (.plain (OpenSpec.upto spanTextsSpec)) spanTextsUptoCard
end Rows
end Go.Proofs.YtobpfcipfjadaaaDoor
