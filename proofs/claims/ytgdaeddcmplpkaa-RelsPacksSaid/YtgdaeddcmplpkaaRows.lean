/-
  No cell of these rows narrows 'for every input' (looked for: loops, veiled, ifaces, maps, wideKeys, modest, calm, conditions, laid).
  DERIVED. THE GIVEN ROWS OF THIS SEAT. 3 by the template 'for every input the law returns true; each argument reads behind the call as it read before'; 0 by the template 'total and deterministic' (their statements: YtgdaeddcmplpkaaTotals.lean).
  GIVEN WITH THE SEED: the statements are not yours to turn. If you find one false, say at which input.
  Laid BY PROGRAM, IN A SANDBOX (cutbox-rows.mjs): the forced cells as the released guide's own fill.sh prints them over the translation a4f7d9cb3df263f1… (all of the seat's roots in one cut). By AI agents, Wed Nov 11 2026. No macro, syntax, notation, axiom, sorry.
-/
import Derived.Test.YtgdaeddcmplpkaaChecked
import GoSem.Claim
import GoSem.ClaimJoined
import GoSem.ClaimMapViews
import Derived.JoinedTies
import Derived.KernelRfl
namespace Go.Proofs.Ytgdaeddcmplpkaa
/- THE CELL 'sum', in the pinned program and in every row, IS THE sha256 OF THE DUMP (.gsa) THAT YtgdaeddcmplpkaaProg.lean LOADS. Nothing in Lean hashes anything: it is a label: what it is worth is what the hold of that sum in a sandbox is worth. -/
noncomputable def Try.pinned : Pinned := { name := "ytgdaeddcmplpkaa", sum := "a4f7d9cb3df263f13506b2f6ac1775f1d36566a51b9da01b55e4f0183c64b9a4", checked := Try.checked }
namespace Rows
def none {H : Type} : Left H := { results := [], args := [] }

/-- 'shacklelaw09.RelsPacks': WHATEVER THE INPUT: true; the input reads as it did. -/
def relsPacksSpec : ChangeSpec := { name := "relsPacks", fn := fun _ => fun
  | [d] => { results := [.lit (.bool true)], args := [d] }
  | _ => none }
def relsPacksRow : OpenClaim := { program := "ytgdaeddcmplpkaa", sum := "a4f7d9cb3df263f13506b2f6ac1775f1d36566a51b9da01b55e4f0183c64b9a4", func := "shackle/shacklelaw09.RelsPacks", spec := "relsPacks", apart := false }
def RelsPacksSaid : Prop := relsPacksRow.holds Try.pinned (OpenSpec.ofChange relsPacksSpec)

/-- ITS FALSE NEIGHBOUR: 'it returns false'. Refute it at one input. -/
def relsPacksWrong : ChangeSpec := { name := "relsPacks", fn := fun _ => fun
  | [d] => { results := [.lit (.bool false)], args := [d] }
  | _ => none }
def RelsPacksWrongFalsely : Prop := relsPacksRow.holds Try.pinned (OpenSpec.ofChange relsPacksWrong)

/-- 'shacklelaw09.RelsBack': WHATEVER THE INPUT: true; the input reads as it did. -/
def relsBackSpec : ChangeSpec := { name := "relsBack", fn := fun _ => fun
  | [d] => { results := [.lit (.bool true)], args := [d] }
  | _ => none }
def relsBackRow : OpenClaim := { program := "ytgdaeddcmplpkaa", sum := "a4f7d9cb3df263f13506b2f6ac1775f1d36566a51b9da01b55e4f0183c64b9a4", func := "shackle/shacklelaw09.RelsBack", spec := "relsBack", apart := false }
def RelsBackSaid : Prop := relsBackRow.holds Try.pinned (OpenSpec.ofChange relsBackSpec)

/-- ITS FALSE NEIGHBOUR: 'it returns false'. Refute it at one input. -/
def relsBackWrong : ChangeSpec := { name := "relsBack", fn := fun _ => fun
  | [d] => { results := [.lit (.bool false)], args := [d] }
  | _ => none }
def RelsBackWrongFalsely : Prop := relsBackRow.holds Try.pinned (OpenSpec.ofChange relsBackWrong)

/-- 'shacklelaw09.RelsBits': WHATEVER THE INPUT: true; the input reads as it did. -/
def relsBitsSpec : ChangeSpec := { name := "relsBits", fn := fun _ => fun
  | [d1, d2] => { results := [.lit (.bool true)], args := [d1, d2] }
  | _ => none }
def relsBitsRow : OpenClaim := { program := "ytgdaeddcmplpkaa", sum := "a4f7d9cb3df263f13506b2f6ac1775f1d36566a51b9da01b55e4f0183c64b9a4", func := "shackle/shacklelaw09.RelsBits", spec := "relsBits", apart := false }
def RelsBitsSaid : Prop := relsBitsRow.holds Try.pinned (OpenSpec.ofChange relsBitsSpec)

/-- ITS FALSE NEIGHBOUR: 'it returns false'. Refute it at one input. -/
def relsBitsWrong : ChangeSpec := { name := "relsBits", fn := fun _ => fun
  | [d1, d2] => { results := [.lit (.bool false)], args := [d1, d2] }
  | _ => none }
def RelsBitsWrongFalsely : Prop := relsBitsRow.holds Try.pinned (OpenSpec.ofChange relsBitsWrong)

/- THE SECOND FORM. 'bulk': how many values and letters a reading holds, each counted each time it is reached (what is shared counts as often as it is met; a slice's spare places count too). A statement '..UptoSaid' is the law's where the arguments, and the package variables that the reading takes, are together of bulk at most 1048576: NARROWER than '..Said'. Prove '..Said' where nothing that the law and all that it calls make is longer than what came in: it says more and counts as full. Else prove '..UptoSaid'. A law counts once. -/
mutual
def uptoBulk {H : Type} : DataW H → Nat
  | .lit (.string bytes) => bytes.length + 1
  | .lit _ => 1
  | .nil => 1
  | .ptr d => uptoBulk d + 1
  | .slice elems spare => uptoBulkAll elems + uptoBulkAll spare + 1
  | .agg parts => uptoBulkAll parts + 1
  | .iface _ d => uptoBulk d + 1
  | .map entries => uptoBulkEntries entries + 1
  | .held _ => 1
def uptoBulkAll {H : Type} : List (DataW H) → Nat
  | [] => 0
  | d :: r => uptoBulk d + uptoBulkAll r
def uptoBulkEntries {H : Type} : List (Lit × DataW H) → Nat
  | [] => 0
  | x :: r => uptoBulkEntry x + uptoBulkEntries r
def uptoBulkEntry {H : Type} : Lit × DataW H → Nat
  | (.string bytes, d) => bytes.length + uptoBulk d + 1
  | (_, d) => uptoBulk d + 1
 end
def uptoSmall : (H : Type) → List (DataW H) → Bool := fun _ ds => decide (uptoBulkAll ds ≤ 1048576)
def OpenSpec.upto (s : _root_.Go.ChangeSpec) : _root_.Go.OpenSpec := { _root_.Go.OpenSpec.ofChange s with cond := some uptoSmall }

/-- 'shacklelaw09.RelsPacks', WHERE WHAT IT READS IS OF BULK AT MOST 1048576: true; the input reads as it did. -/
def relsPacksUptoRow : OpenClaim := { program := "ytgdaeddcmplpkaa", sum := "a4f7d9cb3df263f13506b2f6ac1775f1d36566a51b9da01b55e4f0183c64b9a4", func := "shackle/shacklelaw09.RelsPacks", spec := "relsPacks", apart := false, narrowed := true }
def RelsPacksUptoSaid : Prop := relsPacksUptoRow.holds Try.pinned (OpenSpec.upto relsPacksSpec)

/-- 'shacklelaw09.RelsBack', WHERE WHAT IT READS IS OF BULK AT MOST 1048576: true; the input reads as it did. -/
def relsBackUptoRow : OpenClaim := { program := "ytgdaeddcmplpkaa", sum := "a4f7d9cb3df263f13506b2f6ac1775f1d36566a51b9da01b55e4f0183c64b9a4", func := "shackle/shacklelaw09.RelsBack", spec := "relsBack", apart := false, narrowed := true }
def RelsBackUptoSaid : Prop := relsBackUptoRow.holds Try.pinned (OpenSpec.upto relsBackSpec)

/-- 'shacklelaw09.RelsBits', WHERE WHAT IT READS IS OF BULK AT MOST 1048576: true; the input reads as it did. -/
def relsBitsUptoRow : OpenClaim := { program := "ytgdaeddcmplpkaa", sum := "a4f7d9cb3df263f13506b2f6ac1775f1d36566a51b9da01b55e4f0183c64b9a4", func := "shackle/shacklelaw09.RelsBits", spec := "relsBits", apart := false, narrowed := true }
def RelsBitsUptoSaid : Prop := relsBitsUptoRow.holds Try.pinned (OpenSpec.upto relsBitsSpec)

end Rows
end Go.Proofs.Ytgdaeddcmplpkaa
