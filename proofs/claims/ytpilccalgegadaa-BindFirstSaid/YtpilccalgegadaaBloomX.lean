/- Layer 7: stores into the box of a table of the second kind. -/
import Derived.Test.YtpilccalgegadaaBloomR
import Derived.Test.YtpilccalgegadaaStepI
import Derived.Laws.CopyOwn
import Derived.Laws.Tables
namespace Go.Proofs.Ytpilccalgegadaa
open Go.RowKit
set_option linter.unusedVariables false
set_option linter.unusedSimpArgs false

theorem slice64u : IntSlice Try.prog 45 41 .u64 8 := ⟨Try.underlying45, by kernel_rfl⟩
/-- the cells of a table in memory -/
def bCells (a : Option Addr) (len cap : Nat) (ty en : Int) (p : Option Addr) (n pc : Nat) (fi sh : Nat) (ba : Option Addr) (bl bc : Nat) (ua : Option Addr) (ul uc : Nat) (base : Nat) : Array Value :=
  #[.slice a len cap, .int .i64 ty, .int .u64 en, .slice p n pc, .int .u32 (fi : Int), .int .u32 (sh : Int), .slice ba bl bc, .slice ua ul uc, .int .u64 (base : Int)]
/-- nine stores into a block that is known -/
theorem nine_stores {w : World} {b : Nat} {T : TypeId} {u0 u1 u2 u3 u4 u5 u6 u7 u8 : Value} (E : w.heap[b]? = some (.cells #[u0, u1, u2, u3, u4, u5, u6, u7, u8] T)) (v0 v1 v2 v3 v4 v5 v6 v7 v8 : Value) :
    (((((((((w.setCell ⟨b, 0, none⟩ v0).setCell ⟨b, 1, none⟩ v1).setCell ⟨b, 2, none⟩ v2).setCell ⟨b, 3, none⟩ v3).setCell ⟨b, 4, none⟩ v4).setCell ⟨b, 5, none⟩ v5).setCell ⟨b, 6, none⟩ v6).setCell ⟨b, 7, none⟩ v7).setCell ⟨b, 8, none⟩ v8) = w.setRow b #[v0, v1, v2, v3, v4, v5, v6, v7, v8] := by
  have step : ∀ (cs : Array Value) (i : Nat) (v : Value), (w.setRow b cs).setCell ⟨b, i, none⟩ v = w.setRow b (cs.setIfInBounds i v) := fun cs i v => by
    rw [setCell_eq_setRow _ _ _ _ _ _ _ (setRow_heap w b _ cs T (0, 0) E), setRow_setRow]
  rw [setCell_eq_setRow w b 0 _ _ _ _ E, step, step, step, step, step, step, step, step]
  simp only [List.setIfInBounds_toArray, List.set_cons_zero, List.set_cons_succ]
theorem Row.setRowO {k : IntKind} {w : World} {a : Option Addr} {xs : List Int} (h : Row k w a xs) {g : Nat} (hp : ∀ b, a = some b → b.block ≠ g) (cs : Array Value) : Row k (w.setRow g cs) a xs := by
  intro i hi
  obtain ⟨b, o, e, hc⟩ := h i hi
  refine ⟨b, o, e, ?_⟩
  rw [cell_setRow_other w g cs ⟨b, o + i, none⟩ (show b ≠ g from hp ⟨b, o, none⟩ e)]
  exact hc
theorem Below.setRow' {B g : Nat} {w0 w : World} (hb : Below B w0 w) (hBg : B ≤ g) (cs : Array Value) : Below B w0 (w.setRow g cs) := below_setRow hb hBg cs
/-- the cells of a table that lies in a block -/
theorem b_cells {w : World} {b : Nat} {a : Option Addr} {len cap : Nat} {ty en : Int} {p : Option Addr} {n pc fi sh : Nat} {ba : Option Addr} {bl bc : Nat} {ua : Option Addr} {ul uc base : Nat} (h : w.heap[b]? = some (.cells (bCells a len cap ty en p n pc fi sh ba bl bc ua ul uc base) 78)) :
    w.cell? ⟨b, 0, none⟩ = some (.slice a len cap) ∧ w.cell? ⟨b, 1, none⟩ = some (.int .i64 ty) ∧ w.cell? ⟨b, 2, none⟩ = some (.int .u64 en) ∧ w.cell? ⟨b, 3, none⟩ = some (.slice p n pc) ∧ w.cell? ⟨b, 4, none⟩ = some (.int .u32 (fi : Int)) ∧ w.cell? ⟨b, 5, none⟩ = some (.int .u32 (sh : Int)) ∧
      w.cell? ⟨b, 6, none⟩ = some (.slice ba bl bc) ∧ w.cell? ⟨b, 7, none⟩ = some (.slice ua ul uc) ∧ w.cell? ⟨b, 8, none⟩ = some (.int .u64 (base : Int)) := by
  refine ⟨?_, ?_, ?_, ?_, ?_, ?_, ?_, ?_, ?_⟩ <;> (rw [cell_of_row _ _ _ _ _ _ h]; rfl)
theorem b_put6 {w : World} {b : Nat} {a : Option Addr} {len cap : Nat} {ty en : Int} {p : Option Addr} {n pc fi sh : Nat} {ba : Option Addr} {bl bc : Nat} {ua : Option Addr} {ul uc base : Nat} (h : w.heap[b]? = some (.cells (bCells a len cap ty en p n pc fi sh ba bl bc ua ul uc base) 78)) (ba' : Option Addr) (bl' bc' : Nat) :
    (w.setCell ⟨b, 6, none⟩ (.slice ba' bl' bc')).heap[b]? = some (.cells (bCells a len cap ty en p n pc fi sh ba' bl' bc' ua ul uc base) 78) := by
  rw [heap_setCell_same w b 6 _ _ _ h]
  simp only [bCells, List.setIfInBounds_toArray, List.set_cons_zero, List.set_cons_succ]
theorem b_put7 {w : World} {b : Nat} {a : Option Addr} {len cap : Nat} {ty en : Int} {p : Option Addr} {n pc fi sh : Nat} {ba : Option Addr} {bl bc : Nat} {ua : Option Addr} {ul uc base : Nat} (h : w.heap[b]? = some (.cells (bCells a len cap ty en p n pc fi sh ba bl bc ua ul uc base) 78)) (ua' : Option Addr) (ul' uc' : Nat) :
    (w.setCell ⟨b, 7, none⟩ (.slice ua' ul' uc')).heap[b]? = some (.cells (bCells a len cap ty en p n pc fi sh ba bl bc ua' ul' uc' base) 78) := by
  rw [heap_setCell_same w b 7 _ _ _ h]
  simp only [bCells, List.setIfInBounds_toArray, List.set_cons_zero, List.set_cons_succ]
end Go.Proofs.Ytpilccalgegadaa
