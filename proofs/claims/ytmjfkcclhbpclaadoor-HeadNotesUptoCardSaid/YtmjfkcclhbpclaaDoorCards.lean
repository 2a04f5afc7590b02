/-
  DERIVED. GIVEN WITH THE SEED: THE CARDS: each row of YtmjfkcclhbpclaaDoorRows.lean that lists a variable, with what it lists TIED to the program's text (the seventh form; the later family's looks); each row that meets fmt, with fmt's text TOLD by the authors' own Lean function (tested against real Go, not proved from fmt's source: count such statements apart). THE CARD IS WHAT COUNTS. Prove the row's statement (the work); the ties are given (YtmjfkcclhbpclaaDoorTie.lean); close each card by the builder's one call (the guide's Derived/Test/ToyasCard.lean, 'card_holds'). Laid BY PROGRAM, IN A SANDBOX (cutbox-door.mjs). By AI agents, Wed Nov 11 2026. No macro, syntax, notation, axiom, sorry.
-/
import Derived.Test.YtmjfkcclhbpclaaDoorRows
import GoSem.ClaimSeven
namespace Go.Proofs.YtmjfkcclhbpclaaDoor
namespace Rows

/-- THE TIED CARD OF 'shacklelaw04.HeadBack'. -/
def headBackCard : Claim7 := { stood := { row := headBackRow, standIns := [], harness := (true, "868c6fffe1a04d0bd9395d706ca90d13619cbcb4937dfaf68c66cc9a57975035"), looks := true }, kinds := [], alts := [], laidByText := true, laidKinds := [.handle, .data], laidTests := true, laidLooks := .later }
def HeadBackCardSaid : Prop := Claim7.holds Tryd.pinned (.plain (OpenSpec.ofChange headBackSpec)) headBackCard

/-- THE TIED CARD OF 'shacklelaw04.HeadInterps'. -/
def headInterpsCard : Claim7 := { stood := { row := headInterpsRow, standIns := [], harness := (true, "868c6fffe1a04d0bd9395d706ca90d13619cbcb4937dfaf68c66cc9a57975035"), looks := true }, kinds := [], alts := [], laidByText := true, laidKinds := [.handle, .data], laidTests := true, laidLooks := .later }
def HeadInterpsCardSaid : Prop := Claim7.holds Tryd.pinned (.plain (OpenSpec.ofChange headInterpsSpec)) headInterpsCard

/-- THE TIED CARD OF 'shacklelaw04.HeadNotes'. -/
def headNotesCard : Claim7 := { stood := { row := headNotesRow, standIns := [], harness := (true, "868c6fffe1a04d0bd9395d706ca90d13619cbcb4937dfaf68c66cc9a57975035"), looks := true }, kinds := [], alts := [], laidByText := true, laidKinds := [.handle, .data], laidTests := true, laidLooks := .later }
def HeadNotesCardSaid : Prop := Claim7.holds Tryd.pinned (.plain (OpenSpec.ofChange headNotesSpec)) headNotesCard

/-- THE TIED CARD OF 'shacklelaw04.HeadReads'. -/
def headReadsCard : Claim7 := { stood := { row := headReadsRow, standIns := [], harness := (true, "868c6fffe1a04d0bd9395d706ca90d13619cbcb4937dfaf68c66cc9a57975035"), looks := true }, kinds := [], alts := [], laidByText := true, laidKinds := [.handle, .data], laidTests := true, laidLooks := .later }
def HeadReadsCardSaid : Prop := Claim7.holds Tryd.pinned (.plain (OpenSpec.ofChange headReadsSpec)) headReadsCard

/-- THE SECOND FORM's CARD OF 'shacklelaw04.HeadBack'. -/
def headBackUptoCard : Claim7 := { stood := { row := headBackUptoRow, standIns := [], harness := (true, "868c6fffe1a04d0bd9395d706ca90d13619cbcb4937dfaf68c66cc9a57975035"), looks := true }, kinds := [], alts := [], laidByText := true, laidKinds := [.handle, .data], laidTests := true, laidLooks := .later }
def HeadBackUptoCardSaid : Prop := Claim7.holds Tryd.pinned (.plain (OpenSpec.upto headBackSpec)) headBackUptoCard

/-- THE SECOND FORM's CARD OF 'shacklelaw04.HeadInterps'. -/
def headInterpsUptoCard : Claim7 := { stood := { row := headInterpsUptoRow, standIns := [], harness := (true, "868c6fffe1a04d0bd9395d706ca90d13619cbcb4937dfaf68c66cc9a57975035"), looks := true }, kinds := [], alts := [], laidByText := true, laidKinds := [.handle, .data], laidTests := true, laidLooks := .later }
def HeadInterpsUptoCardSaid : Prop := Claim7.holds Tryd.pinned (.plain (OpenSpec.upto headInterpsSpec)) headInterpsUptoCard

/-- THE SECOND FORM's CARD OF 'shacklelaw04.HeadNotes'. -/
def headNotesUptoCard : Claim7 := { stood := { row := headNotesUptoRow, standIns := [], harness := (true, "868c6fffe1a04d0bd9395d706ca90d13619cbcb4937dfaf68c66cc9a57975035"), looks := true }, kinds := [], alts := [], laidByText := true, laidKinds := [.handle, .data], laidTests := true, laidLooks := .later }
def HeadNotesUptoCardSaid : Prop := Claim7.holds Tryd.pinned (.plain (OpenSpec.upto headNotesSpec)) headNotesUptoCard

/-- THE SECOND FORM's CARD OF 'shacklelaw04.HeadReads'. -/
def headReadsUptoCard : Claim7 := { stood := { row := headReadsUptoRow, standIns := [], harness := (true, "868c6fffe1a04d0bd9395d706ca90d13619cbcb4937dfaf68c66cc9a57975035"), looks := true }, kinds := [], alts := [], laidByText := true, laidKinds := [.handle, .data], laidTests := true, laidLooks := .later }
def HeadReadsUptoCardSaid : Prop := Claim7.holds Tryd.pinned (.plain (OpenSpec.upto headReadsSpec)) headReadsUptoCard
end Rows
end Go.Proofs.YtmjfkcclhbpclaaDoor
