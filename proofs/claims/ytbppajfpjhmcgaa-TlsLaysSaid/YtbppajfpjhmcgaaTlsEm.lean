/- A map of ints to numbers that holds nothing: what is looked up, what is stored. -/
import Derived.Test.YtbppajfpjhmcgaaPMap
namespace Go.Proofs.Ytbppajfpjhmcgaa
open Go.RowKit
open Go.Maps (Keyed)
set_option linter.unusedVariables false
set_option linter.unusedSimpArgs false

def u64R : Value → Option (DataW Unit × List MemPlace)
  | .int .u64 a => some (.lit (.int .u64 a), [])
  | _ => none
theorem u64R_inv {v : Value} {a : Int} {ps : List MemPlace} (h : u64R v = some (.lit (.int .u64 a), ps)) : v = .int .u64 a := by
  unfold u64R at h
  split at h
  · simp only [Option.some.injEq, Prod.mk.injEq, DataW.lit.injEq, Lit.int.injEq, true_and] at h
    rw [h.1]
  · cases h
theorem em_owns {w : World} {g : Nat} (h : w.heap[g]? = some (.map #[] 0)) (P : Program) (K : TypeId) : w.ownsMap P K u64R g 0 (.map []) :=
  ⟨#[], 0, h, ⟨by simp, MapKept.stamped_empty 0, by simp⟩, Nat.le_refl _, rfl⟩
theorem i64_wf {k : Int} (h0 : -9223372036854775808 ≤ k) (h1 : k ≤ 9223372036854775807) : (Lit.int .i64 k).wf = true := by
  have e1 : IntKind.i64.min ≤ k := h0
  have e2 : k ≤ IntKind.i64.max := h1
  simp [Lit.wf, e1, e2]; exact h1
theorem em_look {w : World} {g : Nat} (h : w.heap[g]? = some (.map #[] 0)) (k : Int) (h0 : -9223372036854775808 ≤ k) (h1 : k ≤ 9223372036854775807) :
    (Instr.lookup 69 (.map (some g)) (.int .i64 k) true).run Try.prog w = .ok (.tuple #[.int .u64 0, .bool false]) w := by
  have hz : (zeroValue 25).run Try.prog w = .ok (.int .u64 0) w := by kernel_rfl
  obtain ⟨v, ps, hr, hv⟩ := (em_owns h Try.prog 3).look_ok (t := 69) (e := 25) (Maps.int_keyed Try.underlying3) Try.underlying69 hz (zd := .lit (.int .u64 0)) (zp := []) rfl (Maps.keyOf_int_mk Try.underlying3 (i64_wf h0 h1))
  rw [hr]
  have : (DataW.map [] : DataW Unit).atKey (.int .i64 k) (.lit (.int .u64 0)) = .lit (.int .u64 0) := rfl
  rw [this] at hv
  rw [u64R_inv hv]
  rfl
theorem em_store {w : World} {g : Nat} (h : w.heap[g]? = some (.map #[] 0)) (k v : Int) (h0 : -9223372036854775808 ≤ k) (h1 : k ≤ 9223372036854775807) :
    ∃ w', (Instr.mapUpdate 69 (.map (some g)) (.int .i64 k) (.int .u64 v)).run Try.prog w = .ok () w' ∧ w.mapTurned w' g := by
  obtain ⟨w', h2, -, h3⟩ := (em_owns h Try.prog 3).store (t := 69) (e := 25) (Maps.int_keyed Try.underlying3) Try.underlying69 (by unfold maxLen; omega) (val := .int .u64 v) (d := .lit (.int .u64 v)) (ps := []) (Maps.keyOf_int_mk Try.underlying3 (i64_wf h0 h1)) rfl
  exact ⟨w', h2, h3⟩
end Go.Proofs.Ytbppajfpjhmcgaa
