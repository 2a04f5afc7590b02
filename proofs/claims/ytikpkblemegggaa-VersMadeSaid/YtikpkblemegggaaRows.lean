/-
  No cell of these rows narrows 'for every input' (looked for: loops, veiled, ifaces, maps, wideKeys, modest, calm, conditions, laid).
  DERIVED. THE GIVEN ROWS OF THIS SEAT. 3 by the template 'for every input the law returns true; each argument reads behind the call as it read before'; 0 by the template 'total and deterministic' (their statements: YtikpkblemegggaaTotals.lean).
  GIVEN WITH THE SEED: the statements are not yours to turn. If you find one false, say at which input.
  Laid BY PROGRAM, IN A SANDBOX (cutbox-rows.mjs): the forced cells as the released guide's own fill.sh prints them over the translation e933b43b7942cefc… (all of the seat's roots in one cut). By AI agents, Wed Nov 11 2026. No macro, syntax, notation, axiom, sorry.
-/
import Derived.Test.YtikpkblemegggaaChecked
import GoSem.Claim
import GoSem.ClaimJoined
import GoSem.ClaimMapViews
import Derived.JoinedTies
import Derived.KernelRfl
namespace Go.Proofs.Ytikpkblemegggaa
/- THE CELL 'sum', in the pinned program and in every row, IS THE sha256 OF THE DUMP (.gsa) THAT YtikpkblemegggaaProg.lean LOADS. Nothing in Lean hashes anything: it is a label: what it is worth is what the hold of that sum in a sandbox is worth. -/
noncomputable def Try.pinned : Pinned := { name := "ytikpkblemegggaa", sum := "e933b43b7942cefc3ad0af081eef4f4da42fe5b55d6e068cb145c60fa34848d2", checked := Try.checked }
namespace Rows
def none {H : Type} : Left H := { results := [], args := [] }

/-- 'shacklelaw08.VersOnce': WHATEVER THE INPUT: true; the input reads as it did. -/
def versOnceSpec : ChangeSpec := { name := "versOnce", fn := fun _ => fun
  | [d1, d2, d3, d4] => { results := [.lit (.bool true)], args := [d1, d2, d3, d4] }
  | _ => none }
def versOnceRow : OpenClaim := { program := "ytikpkblemegggaa", sum := "e933b43b7942cefc3ad0af081eef4f4da42fe5b55d6e068cb145c60fa34848d2", func := "shackle/shacklelaw08.VersOnce", spec := "versOnce", inPlace := ["internal/bytealg.IndexByte", "math/bits.Add64"], unfollowed := true, recurses := true, apart := false }
def VersOnceSaid : Prop := versOnceRow.holds Try.pinned (OpenSpec.ofChange versOnceSpec)

/-- ITS FALSE NEIGHBOUR: 'it returns false'. Refute it at one input. -/
def versOnceWrong : ChangeSpec := { name := "versOnce", fn := fun _ => fun
  | [d1, d2, d3, d4] => { results := [.lit (.bool false)], args := [d1, d2, d3, d4] }
  | _ => none }
def VersOnceWrongFalsely : Prop := versOnceRow.holds Try.pinned (OpenSpec.ofChange versOnceWrong)

/-- 'shacklelaw08.VersReads': WHATEVER THE INPUT: true; the input reads as it did. -/
def versReadsSpec : ChangeSpec := { name := "versReads", fn := fun _ => fun
  | [d1, d2, d3, d4] => { results := [.lit (.bool true)], args := [d1, d2, d3, d4] }
  | _ => none }
def versReadsRow : OpenClaim := { program := "ytikpkblemegggaa", sum := "e933b43b7942cefc3ad0af081eef4f4da42fe5b55d6e068cb145c60fa34848d2", func := "shackle/shacklelaw08.VersReads", spec := "versReads", inPlace := ["internal/bytealg.IndexByte", "math/bits.Add64"], unfollowed := true, recurses := true, apart := false }
def VersReadsSaid : Prop := versReadsRow.holds Try.pinned (OpenSpec.ofChange versReadsSpec)

/-- ITS FALSE NEIGHBOUR: 'it returns false'. Refute it at one input. -/
def versReadsWrong : ChangeSpec := { name := "versReads", fn := fun _ => fun
  | [d1, d2, d3, d4] => { results := [.lit (.bool false)], args := [d1, d2, d3, d4] }
  | _ => none }
def VersReadsWrongFalsely : Prop := versReadsRow.holds Try.pinned (OpenSpec.ofChange versReadsWrong)

/-- 'shacklelaw08.VersMade': WHATEVER THE INPUT: true; the input reads as it did. -/
def versMadeSpec : ChangeSpec := { name := "versMade", fn := fun _ => fun
  | [d1, d2, d3, d4] => { results := [.lit (.bool true)], args := [d1, d2, d3, d4] }
  | _ => none }
def versMadeRow : OpenClaim := { program := "ytikpkblemegggaa", sum := "e933b43b7942cefc3ad0af081eef4f4da42fe5b55d6e068cb145c60fa34848d2", func := "shackle/shacklelaw08.VersMade", spec := "versMade", inPlace := ["internal/bytealg.IndexByte", "math/bits.Add64"], unfollowed := true, recurses := true, apart := false }
def VersMadeSaid : Prop := versMadeRow.holds Try.pinned (OpenSpec.ofChange versMadeSpec)

/-- ITS FALSE NEIGHBOUR: 'it returns false'. Refute it at one input. -/
def versMadeWrong : ChangeSpec := { name := "versMade", fn := fun _ => fun
  | [d1, d2, d3, d4] => { results := [.lit (.bool false)], args := [d1, d2, d3, d4] }
  | _ => none }
def VersMadeWrongFalsely : Prop := versMadeRow.holds Try.pinned (OpenSpec.ofChange versMadeWrong)

/- THE SECOND FORM. 'bulk': how many values and letters a reading holds, each counted each time it is reached (what is shared counts as often as it is met; a slice's spare places count too). A statement '..UptoSaid' is the law's where the arguments, and the package variables that the reading takes, are together of bulk at most 1048576: NARROWER than '..Said'. Prove '..Said' where nothing that the law and all that it calls make is longer than what came in: it says more and counts as full. Else prove '..UptoSaid'. A law counts once. -/
mutual
def uptoBulk {H : Type} : DataW H → Nat
  | .lit (.string bytes) => bytes.length + 1
  | .lit _ => 1
  | .nil => 1
  | .ptr d => uptoBulk d + 1
  | .slice elems spare => uptoBulkAll elems + uptoBulkAll spare + 1
  | .agg parts => uptoBulkAll parts + 1
  | .iface _ d => uptoBulk d + 1
  | .map entries => uptoBulkEntries entries + 1
  | .held _ => 1
def uptoBulkAll {H : Type} : List (DataW H) → Nat
  | [] => 0
  | d :: r => uptoBulk d + uptoBulkAll r
def uptoBulkEntries {H : Type} : List (Lit × DataW H) → Nat
  | [] => 0
  | x :: r => uptoBulkEntry x + uptoBulkEntries r
def uptoBulkEntry {H : Type} : Lit × DataW H → Nat
  | (.string bytes, d) => bytes.length + uptoBulk d + 1
  | (_, d) => uptoBulk d + 1
 end
def uptoSmall : (H : Type) → List (DataW H) → Bool := fun _ ds => decide (uptoBulkAll ds ≤ 1048576)
def OpenSpec.upto (s : _root_.Go.ChangeSpec) : _root_.Go.OpenSpec := { _root_.Go.OpenSpec.ofChange s with cond := some uptoSmall }

/-- 'shacklelaw08.VersOnce', WHERE WHAT IT READS IS OF BULK AT MOST 1048576: true; the input reads as it did. -/
def versOnceUptoRow : OpenClaim := { program := "ytikpkblemegggaa", sum := "e933b43b7942cefc3ad0af081eef4f4da42fe5b55d6e068cb145c60fa34848d2", func := "shackle/shacklelaw08.VersOnce", spec := "versOnce", inPlace := ["internal/bytealg.IndexByte", "math/bits.Add64"], unfollowed := true, recurses := true, apart := false, narrowed := true }
def VersOnceUptoSaid : Prop := versOnceUptoRow.holds Try.pinned (OpenSpec.upto versOnceSpec)

/-- 'shacklelaw08.VersReads', WHERE WHAT IT READS IS OF BULK AT MOST 1048576: true; the input reads as it did. -/
def versReadsUptoRow : OpenClaim := { program := "ytikpkblemegggaa", sum := "e933b43b7942cefc3ad0af081eef4f4da42fe5b55d6e068cb145c60fa34848d2", func := "shackle/shacklelaw08.VersReads", spec := "versReads", inPlace := ["internal/bytealg.IndexByte", "math/bits.Add64"], unfollowed := true, recurses := true, apart := false, narrowed := true }
def VersReadsUptoSaid : Prop := versReadsUptoRow.holds Try.pinned (OpenSpec.upto versReadsSpec)

/-- 'shacklelaw08.VersMade', WHERE WHAT IT READS IS OF BULK AT MOST 1048576: true; the input reads as it did. -/
def versMadeUptoRow : OpenClaim := { program := "ytikpkblemegggaa", sum := "e933b43b7942cefc3ad0af081eef4f4da42fe5b55d6e068cb145c60fa34848d2", func := "shackle/shacklelaw08.VersMade", spec := "versMade", inPlace := ["internal/bytealg.IndexByte", "math/bits.Add64"], unfollowed := true, recurses := true, apart := false, narrowed := true }
def VersMadeUptoSaid : Prop := versMadeUptoRow.holds Try.pinned (OpenSpec.upto versMadeSpec)

end Rows
end Go.Proofs.Ytikpkblemegggaa
