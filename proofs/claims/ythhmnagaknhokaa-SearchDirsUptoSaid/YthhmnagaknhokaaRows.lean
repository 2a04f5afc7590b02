/-
  No cell of these rows narrows 'for every input' (looked for: loops, veiled, ifaces, maps, wideKeys, modest, calm, conditions, laid).
  DERIVED. THE GIVEN ROWS OF THIS SEAT. 2 by the template 'for every input the law returns true; each argument reads behind the call as it read before'; 0 by the template 'total and deterministic' (their statements: YthhmnagaknhokaaTotals.lean).
  GIVEN WITH THE SEED: the statements are not yours to turn. If you find one false, say at which input.
  Laid BY PROGRAM, IN A SANDBOX (cutbox-rows.mjs): the forced cells as the released guide's own fill.sh prints them over the translation 45121941d25ef909… (all of the seat's roots in one cut). By AI agents, Wed Nov 11 2026. No macro, syntax, notation, axiom, sorry.
-/
import Derived.Test.YthhmnagaknhokaaChecked
import GoSem.Claim
import GoSem.ClaimJoined
import GoSem.ClaimMapViews
import Derived.JoinedTies
import Derived.KernelRfl
namespace Go.Proofs.Ythhmnagaknhokaa
/- THE CELL 'sum', in the pinned program and in every row, IS THE sha256 OF THE DUMP (.gsa) THAT YthhmnagaknhokaaProg.lean LOADS. Nothing in Lean hashes anything: it is a label: what it is worth is what the hold of that sum in a sandbox is worth. -/
noncomputable def Try.pinned : Pinned := { name := "ythhmnagaknhokaa", sum := "45121941d25ef909fb011a5f36dcaa846b98ffd4b29163daff3904be55a89221", checked := Try.checked }
namespace Rows
def none {H : Type} : Left H := { results := [], args := [] }

/-- 'shacklelaw14.SearchPlain': WHATEVER THE INPUT: true; the input reads as it did. -/
def searchPlainSpec : ChangeSpec := { name := "searchPlain", fn := fun _ => fun
  | [d1, d2] => { results := [.lit (.bool true)], args := [d1, d2] }
  | _ => none }
def searchPlainRow : OpenClaim := { program := "ythhmnagaknhokaa", sum := "45121941d25ef909fb011a5f36dcaa846b98ffd4b29163daff3904be55a89221", func := "shackle/shacklelaw14.SearchPlain", spec := "searchPlain", inPlace := ["internal/abi.NoEscape"], unfollowed := true, recurses := true, apart := false }
def SearchPlainSaid : Prop := searchPlainRow.holds Try.pinned (OpenSpec.ofChange searchPlainSpec)

/-- ITS FALSE NEIGHBOUR: 'it returns false'. Refute it at one input. -/
def searchPlainWrong : ChangeSpec := { name := "searchPlain", fn := fun _ => fun
  | [d1, d2] => { results := [.lit (.bool false)], args := [d1, d2] }
  | _ => none }
def SearchPlainWrongFalsely : Prop := searchPlainRow.holds Try.pinned (OpenSpec.ofChange searchPlainWrong)

/-- 'shacklelaw14.SearchDirs': WHATEVER THE INPUT: true; the input reads as it did. -/
def searchDirsSpec : ChangeSpec := { name := "searchDirs", fn := fun _ => fun
  | [d] => { results := [.lit (.bool true)], args := [d] }
  | _ => none }
def searchDirsRow : OpenClaim := { program := "ythhmnagaknhokaa", sum := "45121941d25ef909fb011a5f36dcaa846b98ffd4b29163daff3904be55a89221", func := "shackle/shacklelaw14.SearchDirs", spec := "searchDirs", inPlace := ["internal/abi.NoEscape"], unfollowed := true, recurses := true, apart := false }
def SearchDirsSaid : Prop := searchDirsRow.holds Try.pinned (OpenSpec.ofChange searchDirsSpec)

/-- ITS FALSE NEIGHBOUR: 'it returns false'. Refute it at one input. -/
def searchDirsWrong : ChangeSpec := { name := "searchDirs", fn := fun _ => fun
  | [d] => { results := [.lit (.bool false)], args := [d] }
  | _ => none }
def SearchDirsWrongFalsely : Prop := searchDirsRow.holds Try.pinned (OpenSpec.ofChange searchDirsWrong)

/- THE SECOND FORM. 'bulk': how many values and letters a reading holds, each counted each time it is reached (what is shared counts as often as it is met; a slice's spare places count too). A statement '..UptoSaid' is the law's where the arguments, and the package variables that the reading takes, are together of bulk at most 1048576: NARROWER than '..Said'. Prove '..Said' where nothing that the law and all that it calls make is longer than what came in: it says more and counts as full. Else prove '..UptoSaid'. A law counts once. -/
mutual
def uptoBulk {H : Type} : DataW H → Nat
  | .lit (.string bytes) => bytes.length + 1
  | .lit _ => 1
  | .nil => 1
  | .ptr d => uptoBulk d + 1
  | .slice elems spare => uptoBulkAll elems + uptoBulkAll spare + 1
  | .agg parts => uptoBulkAll parts + 1
  | .iface _ d => uptoBulk d + 1
  | .map entries => uptoBulkEntries entries + 1
  | .held _ => 1
def uptoBulkAll {H : Type} : List (DataW H) → Nat
  | [] => 0
  | d :: r => uptoBulk d + uptoBulkAll r
def uptoBulkEntries {H : Type} : List (Lit × DataW H) → Nat
  | [] => 0
  | x :: r => uptoBulkEntry x + uptoBulkEntries r
def uptoBulkEntry {H : Type} : Lit × DataW H → Nat
  | (.string bytes, d) => bytes.length + uptoBulk d + 1
  | (_, d) => uptoBulk d + 1
 end
def uptoSmall : (H : Type) → List (DataW H) → Bool := fun _ ds => decide (uptoBulkAll ds ≤ 1048576)
def OpenSpec.upto (s : _root_.Go.ChangeSpec) : _root_.Go.OpenSpec := { _root_.Go.OpenSpec.ofChange s with cond := some uptoSmall }

/-- 'shacklelaw14.SearchPlain', WHERE WHAT IT READS IS OF BULK AT MOST 1048576: true; the input reads as it did. -/
def searchPlainUptoRow : OpenClaim := { program := "ythhmnagaknhokaa", sum := "45121941d25ef909fb011a5f36dcaa846b98ffd4b29163daff3904be55a89221", func := "shackle/shacklelaw14.SearchPlain", spec := "searchPlain", inPlace := ["internal/abi.NoEscape"], unfollowed := true, recurses := true, apart := false, narrowed := true }
def SearchPlainUptoSaid : Prop := searchPlainUptoRow.holds Try.pinned (OpenSpec.upto searchPlainSpec)

/-- 'shacklelaw14.SearchDirs', WHERE WHAT IT READS IS OF BULK AT MOST 1048576: true; the input reads as it did. -/
def searchDirsUptoRow : OpenClaim := { program := "ythhmnagaknhokaa", sum := "45121941d25ef909fb011a5f36dcaa846b98ffd4b29163daff3904be55a89221", func := "shackle/shacklelaw14.SearchDirs", spec := "searchDirs", inPlace := ["internal/abi.NoEscape"], unfollowed := true, recurses := true, apart := false, narrowed := true }
def SearchDirsUptoSaid : Prop := searchDirsUptoRow.holds Try.pinned (OpenSpec.upto searchDirsSpec)

end Rows
end Go.Proofs.Ythhmnagaknhokaa
