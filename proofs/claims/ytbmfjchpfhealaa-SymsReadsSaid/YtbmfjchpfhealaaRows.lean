/-
  No cell of these rows narrows 'for every input' (looked for: loops, veiled, ifaces, maps, wideKeys, modest, calm, conditions, laid).
  DERIVED. THE GIVEN ROWS OF THIS SEAT. 3 by the template 'for every input the law returns true; each argument reads behind the call as it read before'; 0 by the template 'total and deterministic' (their statements: YtbmfjchpfhealaaTotals.lean).
  GIVEN WITH THE SEED: the statements are not yours to turn. If you find one false, say at which input.
  Laid BY PROGRAM, IN A SANDBOX (cutbox-rows.mjs): the forced cells as the released guide's own fill.sh prints them over the translation a54feb102f349a7a… (all of the seat's roots in one cut). By AI agents, Wed Nov 11 2026. No macro, syntax, notation, axiom, sorry.
-/
import Derived.Test.YtbmfjchpfhealaaChecked
import GoSem.Claim
import GoSem.ClaimJoined
import GoSem.ClaimMapViews
import Derived.JoinedTies
import Derived.KernelRfl
namespace Go.Proofs.Ytbmfjchpfhealaa
/- THE CELL 'sum', in the pinned program and in every row, IS THE sha256 OF THE DUMP (.gsa) THAT YtbmfjchpfhealaaProg.lean LOADS. Nothing in Lean hashes anything: it is a label: what it is worth is what the hold of that sum in a sandbox is worth. -/
noncomputable def Try.pinned : Pinned := { name := "ytbmfjchpfhealaa", sum := "a54feb102f349a7ac9c400ace364bfdf69638ac2a21fbea3d898fef26da222ac", checked := Try.checked }
namespace Rows
def none {H : Type} : Left H := { results := [], args := [] }

/-- 'shacklelaw06.SymsStand': WHATEVER THE INPUT: true; the input reads as it did. -/
def symsStandSpec : ChangeSpec := { name := "symsStand", fn := fun _ => fun
  | [d1, d2, d3, d4] => { results := [.lit (.bool true)], args := [d1, d2, d3, d4] }
  | _ => none }
def symsStandRow : OpenClaim := { program := "ytbmfjchpfhealaa", sum := "a54feb102f349a7ac9c400ace364bfdf69638ac2a21fbea3d898fef26da222ac", func := "shackle/shacklelaw06.SymsStand", spec := "symsStand", inPlace := ["internal/bytealg.IndexByte"], apart := false }
def SymsStandSaid : Prop := symsStandRow.holds Try.pinned (OpenSpec.ofChange symsStandSpec)

/-- ITS FALSE NEIGHBOUR: 'it returns false'. Refute it at one input. -/
def symsStandWrong : ChangeSpec := { name := "symsStand", fn := fun _ => fun
  | [d1, d2, d3, d4] => { results := [.lit (.bool false)], args := [d1, d2, d3, d4] }
  | _ => none }
def SymsStandWrongFalsely : Prop := symsStandRow.holds Try.pinned (OpenSpec.ofChange symsStandWrong)

/-- 'shacklelaw06.SymsReads': WHATEVER THE INPUT: true; the input reads as it did. -/
def symsReadsSpec : ChangeSpec := { name := "symsReads", fn := fun _ => fun
  | [d1, d2, d3, d4] => { results := [.lit (.bool true)], args := [d1, d2, d3, d4] }
  | _ => none }
def symsReadsRow : OpenClaim := { program := "ytbmfjchpfhealaa", sum := "a54feb102f349a7ac9c400ace364bfdf69638ac2a21fbea3d898fef26da222ac", func := "shackle/shacklelaw06.SymsReads", spec := "symsReads", inPlace := ["internal/bytealg.IndexByte"], apart := false }
def SymsReadsSaid : Prop := symsReadsRow.holds Try.pinned (OpenSpec.ofChange symsReadsSpec)

/-- ITS FALSE NEIGHBOUR: 'it returns false'. Refute it at one input. -/
def symsReadsWrong : ChangeSpec := { name := "symsReads", fn := fun _ => fun
  | [d1, d2, d3, d4] => { results := [.lit (.bool false)], args := [d1, d2, d3, d4] }
  | _ => none }
def SymsReadsWrongFalsely : Prop := symsReadsRow.holds Try.pinned (OpenSpec.ofChange symsReadsWrong)

/-- 'shacklelaw09.RelsMade': WHATEVER THE INPUT: true; the input reads as it did. -/
def relsMadeSpec : ChangeSpec := { name := "relsMade", fn := fun _ => fun
  | [d1, d2] => { results := [.lit (.bool true)], args := [d1, d2] }
  | _ => none }
def relsMadeRow : OpenClaim := { program := "ytbmfjchpfhealaa", sum := "a54feb102f349a7ac9c400ace364bfdf69638ac2a21fbea3d898fef26da222ac", func := "shackle/shacklelaw09.RelsMade", spec := "relsMade", apart := false }
def RelsMadeSaid : Prop := relsMadeRow.holds Try.pinned (OpenSpec.ofChange relsMadeSpec)

/-- ITS FALSE NEIGHBOUR: 'it returns false'. Refute it at one input. -/
def relsMadeWrong : ChangeSpec := { name := "relsMade", fn := fun _ => fun
  | [d1, d2] => { results := [.lit (.bool false)], args := [d1, d2] }
  | _ => none }
def RelsMadeWrongFalsely : Prop := relsMadeRow.holds Try.pinned (OpenSpec.ofChange relsMadeWrong)

/- THE SECOND FORM. 'bulk': how many values and letters a reading holds, each counted each time it is reached (what is shared counts as often as it is met; a slice's spare places count too). A statement '..UptoSaid' is the law's where the arguments, and the package variables that the reading takes, are together of bulk at most 1048576: NARROWER than '..Said'. Prove '..Said' where nothing that the law and all that it calls make is longer than what came in: it says more and counts as full. Else prove '..UptoSaid'. A law counts once. -/
mutual
def uptoBulk {H : Type} : DataW H → Nat
  | .lit (.string bytes) => bytes.length + 1
  | .lit _ => 1
  | .nil => 1
  | .ptr d => uptoBulk d + 1
  | .slice elems spare => uptoBulkAll elems + uptoBulkAll spare + 1
  | .agg parts => uptoBulkAll parts + 1
  | .iface _ d => uptoBulk d + 1
  | .map entries => uptoBulkEntries entries + 1
  | .held _ => 1
def uptoBulkAll {H : Type} : List (DataW H) → Nat
  | [] => 0
  | d :: r => uptoBulk d + uptoBulkAll r
def uptoBulkEntries {H : Type} : List (Lit × DataW H) → Nat
  | [] => 0
  | x :: r => uptoBulkEntry x + uptoBulkEntries r
def uptoBulkEntry {H : Type} : Lit × DataW H → Nat
  | (.string bytes, d) => bytes.length + uptoBulk d + 1
  | (_, d) => uptoBulk d + 1
 end
def uptoSmall : (H : Type) → List (DataW H) → Bool := fun _ ds => decide (uptoBulkAll ds ≤ 1048576)
def OpenSpec.upto (s : _root_.Go.ChangeSpec) : _root_.Go.OpenSpec := { _root_.Go.OpenSpec.ofChange s with cond := some uptoSmall }

/-- 'shacklelaw06.SymsStand', WHERE WHAT IT READS IS OF BULK AT MOST 1048576: true; the input reads as it did. -/
def symsStandUptoRow : OpenClaim := { program := "ytbmfjchpfhealaa", sum := "a54feb102f349a7ac9c400ace364bfdf69638ac2a21fbea3d898fef26da222ac", func := "shackle/shacklelaw06.SymsStand", spec := "symsStand", inPlace := ["internal/bytealg.IndexByte"], apart := false, narrowed := true }
def SymsStandUptoSaid : Prop := symsStandUptoRow.holds Try.pinned (OpenSpec.upto symsStandSpec)

/-- 'shacklelaw06.SymsReads', WHERE WHAT IT READS IS OF BULK AT MOST 1048576: true; the input reads as it did. -/
def symsReadsUptoRow : OpenClaim := { program := "ytbmfjchpfhealaa", sum := "a54feb102f349a7ac9c400ace364bfdf69638ac2a21fbea3d898fef26da222ac", func := "shackle/shacklelaw06.SymsReads", spec := "symsReads", inPlace := ["internal/bytealg.IndexByte"], apart := false, narrowed := true }
def SymsReadsUptoSaid : Prop := symsReadsUptoRow.holds Try.pinned (OpenSpec.upto symsReadsSpec)

/-- 'shacklelaw09.RelsMade', WHERE WHAT IT READS IS OF BULK AT MOST 1048576: true; the input reads as it did. -/
def relsMadeUptoRow : OpenClaim := { program := "ytbmfjchpfhealaa", sum := "a54feb102f349a7ac9c400ace364bfdf69638ac2a21fbea3d898fef26da222ac", func := "shackle/shacklelaw09.RelsMade", spec := "relsMade", apart := false, narrowed := true }
def RelsMadeUptoSaid : Prop := relsMadeUptoRow.holds Try.pinned (OpenSpec.upto relsMadeSpec)

end Rows
end Go.Proofs.Ytbmfjchpfhealaa
