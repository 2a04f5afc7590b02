/- What the bound on the bulk gives. -/
import Derived.Test.YtaconhigaoflaaaRows
import Derived.Test.YtaconhigaoflaaaSymWhole
import Derived.SliceStrings
namespace Go.Proofs.Ytaconhigaoflaaa
open Go.ChangeShapes
set_option linter.unusedVariables false

theorem bulk_all {H : Type} (ss : List ByteArray) : Rows.uptoBulkAll (strs (H := H) ss) = bulkT ss := by
  induction ss with
  | nil => rfl
  | cons s ss ih =>
    simp only [strs, List.map_cons, Rows.uptoBulkAll, Rows.uptoBulk, bulkT, List.sum_cons] at *
    rw [ih]
    simp
theorem bulk_strings {H : Type} (l r : List ByteArray) : bulkT l ≤ Rows.uptoBulk (DataW.slice (H := H) (strs l) (strs r)) := by
  simp only [Rows.uptoBulk, bulk_all]
  omega
end Go.Proofs.Ytaconhigaoflaaa
