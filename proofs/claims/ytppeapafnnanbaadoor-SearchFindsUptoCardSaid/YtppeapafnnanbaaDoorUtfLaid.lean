/- A world that meets the rows' list: utf8's two tables laid. -/
import Derived.Test.YtppeapafnnanbaaDoorRows
import Derived.LaidLaws
import Derived.LaidHandle
import Derived.Stop.Joined
import Derived.Deep.DeepHandedRow
namespace Go.Proofs.YtppeapafnnanbaaDoor
set_option linter.unusedVariables false

def litCell : DataW Unit → Value
  | .lit (.int k n) => .int k n
  | _ => undef
def pairCells : DataW Unit → List Value
  | .agg l => l.map litCell
  | _ => []
def aggOf : DataW Unit → List (DataW Unit)
  | .agg l => l
  | _ => []
/-- The settled world, the two tables laid. -/
noncomputable def laidWorld (os : Os) : World :=
  let w0 := World.holding Tryd.prog os ⟨#[], #[], []⟩
  { w0 with heap := (w0.heap.modify 1 fun
      | .cells _ t frozen => .cells ((aggOf Rows.laid_unicode_utf8_first).map litCell).toArray t frozen
      | o => o).modify 2 fun
      | .cells _ t frozen => .cells ((aggOf (Rows.laid_unicode_utf8_acceptRanges (H := Unit))).flatMap pairCells).toArray t frozen
      | o => o }
end Go.Proofs.YtppeapafnnanbaaDoor
