/- What the rows' list gives a walk: the cell of errors.errorType; a world that meets the list: the handle and utf8's two tables laid. -/
import Derived.Test.YtcabpidbdnlomaaGreatDoorRows
import Derived.Test.YtcabpidbdnlomaaGreatDoorIsSpot
import Derived.LaidLaws
import Derived.LaidHandle
import Derived.Stop.Joined
import Derived.Deep.DeepHandedRow
namespace Go.Proofs.YtcabpidbdnlomaaGreatDoor
open Go.RowKit
set_option linter.unusedVariables false

theorem Laid3.et : Tryz.prog.globalNamed "errors.errorType" = some 0 := by kernel_rfl
theorem Laid3.rt : (Tryz.prog.cutTypes.find? (·.1 == "internal/reflectlite.rtype")).map (·.2) = some 122 := by kernel_rfl
theorem Laid3.oneRow : ((List.range Tryz.prog.types.size).filter fun t => Tryz.prog.rowNamed t [101, 114, 114, 111, 114]) = [30] := by kernel_rfl

theorem errType_of_laid {W : World} {l : List (String × DataW Unit)} (hl : l.filter (fun x => x.2.handleName?.isSome) = [("errors.errorType", Rows.laid_errors_errorType)]) (h : laidMetH Tryz.prog l W) : ErrType W := by
  have h' : handlesMet Tryz.prog [("errors.errorType", Rows.laid_errors_errorType)] W := by
    unfold laidMetH at h
    rw [hl] at h
    exact h.2
  obtain ⟨name, u, ty, e1, e2, e3, e4, e5⟩ := h' _ (List.mem_singleton.2 rfl)
  have en : name = [101, 114, 114, 111, 114] := (Option.some.inj e1).symm
  subst en
  obtain rfl := Option.some.inj (Laid3.rt.symm.trans e2)
  have hm : ty ∈ (List.range Tryz.prog.types.size).filter fun t => Tryz.prog.rowNamed t [101, 114, 114, 111, 114] := List.mem_filter.2 ⟨List.mem_range.2 e3, e4⟩
  rw [Laid3.oneRow] at hm
  obtain rfl := List.mem_singleton.1 hm
  have hh : typeHandle Tryz.prog 30 = .pointer (some ⟨4, 30, none⟩) := by kernel_rfl
  rw [hh] at e5
  unfold ErrType
  simpa using World.var?_cell Laid3.et e5 0

def litCell : DataW Unit → Value
  | .lit (.int k n) => .int k n
  | _ => undef
def pairCells : DataW Unit → List Value
  | .agg l => l.map litCell
  | _ => []
def aggOf : DataW Unit → List (DataW Unit)
  | .agg l => l
  | _ => []
/-- The settled world, the handle and the two tables laid. -/
noncomputable def laidWorld (os : Os) : World :=
  let w0 := World.holding Tryz.prog os ⟨#[], #[], []⟩
  { w0 with heap := ((w0.heap.modify 0 fun
      | .cells _ t frozen => .cells #[.iface 122 (.agg #[.pointer (some ⟨4, 30, none⟩)])] t frozen
      | o => o).modify 2 fun
      | .cells _ t frozen => .cells ((aggOf Rows.laid_unicode_utf8_first).map litCell).toArray t frozen
      | o => o).modify 3 fun
      | .cells _ t frozen => .cells ((aggOf (Rows.laid_unicode_utf8_acceptRanges (H := Unit))).flatMap pairCells).toArray t frozen
      | o => o }
end Go.Proofs.YtcabpidbdnlomaaGreatDoor
