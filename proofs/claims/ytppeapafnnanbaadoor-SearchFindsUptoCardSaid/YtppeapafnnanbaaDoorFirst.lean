/- Layer 14: the first and the last object of a chain. -/
import Derived.Test.YtppeapafnnanbaaDoorAdd
import Derived.Handy
import Derived.Laws.CopyOwn
import Derived.Laws.Tables
namespace Go.Proofs.YtppeapafnnanbaaDoor
open Go.RowKit
set_option linter.unusedVariables false
set_option linter.unusedSimpArgs false

structure OT where
  path : ByteArray
  rpath : ByteArray
  runpath : ByteArray
  hasR : Bool
  hasRun : Bool
def OT.cells (o : OT) : List Value := [.string o.path, .string o.rpath, .string o.runpath, .bool o.hasR, .bool o.hasRun]
def CRow (w : World) (a : Option Addr) (C : List OT) : Prop := ∀ i, (hi : i < C.length) → ∃ b off, a = some ⟨b, off, none⟩ ∧ b < w.heap.size ∧ ∀ j, j < 5 → w.cell? ⟨b, off + i * 5 + j, none⟩ = C[i].cells[j]?
theorem CRow.below {w w' : World} {a : Option Addr} {C : List OT} (h : CRow w a C) (hb : Below w.heap.size w w') : CRow w' a C := by
  intro i hi
  obtain ⟨b, off, e, hlt, hc⟩ := h i hi
  exact ⟨b, off, e, Nat.lt_of_lt_of_le hlt hb.size, fun j hj => by rw [hb.cell (p := ⟨b, off + i * 5 + j, none⟩) hlt]; exact hc j hj⟩

theorem five_stores {w : World} {b : Nat} {T : TypeId} {u0 u1 u2 u3 u4 : Value} (E : w.heap[b]? = some (.cells #[u0, u1, u2, u3, u4] T)) (v0 v1 v2 v3 v4 : Value) :
    (((((w.setCell ⟨b, 0, none⟩ v0).setCell ⟨b, 1, none⟩ v1).setCell ⟨b, 2, none⟩ v2).setCell ⟨b, 3, none⟩ v3).setCell ⟨b, 4, none⟩ v4) = w.setRow b #[v0, v1, v2, v3, v4] := by
  have step : ∀ (cs : Array Value) (i : Nat) (v : Value), (w.setRow b cs).setCell ⟨b, i, none⟩ v = w.setRow b (cs.setIfInBounds i v) := fun cs i v => by
    rw [setCell_eq_setRow _ _ _ _ _ _ _ (setRow_heap w b _ cs T (0, 0) E), setRow_setRow]
  rw [setCell_eq_setRow w b 0 _ _ _ _ E, step, step, step, step]
  simp only [List.setIfInBounds_toArray, List.set_cons_zero, List.set_cons_succ]

set_option maxRecDepth 100000 in
set_option maxHeartbeats 4000000 in
theorem first_any (b off n c : Nat) (o : OT) (w : World) (hn : 0 < n) (hnl : n ≤ 140737488351232) (h : ∀ j, j < 5 → w.cell? ⟨b, off + j, none⟩ = o.cells[j]?) (hlt : b < w.heap.size) :
    Calls Tryd.prog 35 #[.slice (some ⟨b, off, none⟩) n c] w fun e w' => e = .returned (.agg #[.string o.path, .string o.rpath, .string o.runpath, .bool o.hasR, .bool o.hasRun]) ∧ Below w.heap.size w w' := by
  have c0 : w.cell? ⟨b, off, none⟩ = some (.string o.path) := h 0 (by omega)
  have c1 : w.cell? ⟨b, off + 1, none⟩ = some (.string o.rpath) := h 1 (by omega)
  have c2 : w.cell? ⟨b, off + 2, none⟩ = some (.string o.runpath) := h 2 (by omega)
  have c3 : w.cell? ⟨b, off + 3, none⟩ = some (.bool o.hasR) := h 3 (by omega)
  have c4 : w.cell? ⟨b, off + 4, none⟩ = some (.bool o.hasRun) := h 4 (by omega)
  have hn0 : ((n : Int) == 0) = false := beq_eq_false_iff_ne.2 (by omega)
  have hni : (0 : Int) < (n : Int) := by omega
  clear h
  go_enter Tryd.func35, Tryd.ntmps35
  go_wp2
  go_returns
  exact ⟨rfl, (Below.refl _ _).alloc (Nat.le_refl _) _⟩

set_option maxRecDepth 100000 in
set_option maxHeartbeats 4000000 in
theorem last_any (b off m c : Nat) (o : OT) (w : World) (hc : m + 1 ≤ c) (hnl : m ≤ 140737488351232) (h : ∀ j, j < 5 → w.cell? ⟨b, off + m * 5 + j, none⟩ = o.cells[j]?) (hlt : b < w.heap.size) :
    Calls Tryd.prog 29 #[.slice (some ⟨b, off, none⟩) (m + 1) c] w fun e w' => e = .returned (.agg #[.string o.path, .string o.rpath, .string o.runpath, .bool o.hasR, .bool o.hasRun]) ∧ Below w.heap.size w w' := by
  have HF := Lib.hid (fun (w1 : World) (hb : Below w.heap.size w w1) => first_any b (off + m * 5) 1 (c - m) o w1 (by omega) (by omega) (fun j hj => by rw [hb.cell (p := ⟨b, off + m * 5 + j, none⟩) hlt]; exact h j hj) (Nat.lt_of_lt_of_le hlt hb.size))
  have hmx : max (0 : Int) ((m : Int) + 1 - 1) = (m : Int) := by omega
  have hmx2 : max (0 : Int) (m : Int) = (m : Int) := by omega
  have hcast : ((m + 1 : Nat) : Int) = (m : Int) + 1 := by omega
  have hne : ¬ c = m := by omega
  have hm0 : (0 : Int) ≤ (m : Int) := by omega
  have hm1 : (m : Int) ≤ (m : Int) + 1 := by omega
  have BZ : Hid (Below w.heap.size w (w.alloc (.cells #[.string .empty, .string .empty, .string .empty, .bool false, .bool false] 48))) := Lib.hid ((Below.refl _ _).alloc (Nat.le_refl _) _)
  have HBX : Hid ((w.alloc (.cells #[.string .empty, .string .empty, .string .empty, .bool false, .bool false] 48)).heap[w.heap.size]? = some (.cells #[.string .empty, .string .empty, .string .empty, .bool false, .bool false] 48)) := Lib.hid (heap_alloc_new _ _)
  clear h
  go_enter Tryd.func29, Tryd.ntmps29
  go_wp2_with fail
  refine (HF.out _ BZ.out).mono ?_
  rintro e w2 ⟨rfl, hb2⟩
  have E2 := Lib.hid ((hb2.block _ (lt_of_block HBX.out)).trans HBX.out)
  have k0 : w2.cell? ⟨w.heap.size, 0, none⟩ = some (.string .empty) := by rw [cell_of_row _ _ _ _ _ _ E2.out]; rfl
  have k1 : w2.cell? ⟨w.heap.size, 1, none⟩ = some (.string .empty) := by rw [cell_of_row _ _ _ _ _ _ E2.out]; rfl
  have k2 : w2.cell? ⟨w.heap.size, 2, none⟩ = some (.string .empty) := by rw [cell_of_row _ _ _ _ _ _ E2.out]; rfl
  have k3 : w2.cell? ⟨w.heap.size, 3, none⟩ = some (.bool false) := by rw [cell_of_row _ _ _ _ _ _ E2.out]; rfl
  have k4 : w2.cell? ⟨w.heap.size, 4, none⟩ = some (.bool false) := by rw [cell_of_row _ _ _ _ _ _ E2.out]; rfl
  have f0 : w2.frozen? ⟨w.heap.size, 0, none⟩ = false := frozen_of_row _ _ _ _ _ E2.out
  have f1 : w2.frozen? ⟨w.heap.size, 1, none⟩ = false := frozen_of_row _ _ _ _ _ E2.out
  have f2 : w2.frozen? ⟨w.heap.size, 2, none⟩ = false := frozen_of_row _ _ _ _ _ E2.out
  have f3 : w2.frozen? ⟨w.heap.size, 3, none⟩ = false := frozen_of_row _ _ _ _ _ E2.out
  have f4 : w2.frozen? ⟨w.heap.size, 4, none⟩ = false := frozen_of_row _ _ _ _ _ E2.out
  have FS := Lib.hid (five_stores E2.out (.string o.path) (.string o.rpath) (.string o.runpath) (.bool o.hasR) (.bool o.hasRun))
  have B2 := Lib.hid (bstep BZ.out hb2)
  clear hb2
  go_wp2_with fail
  rw [FS.out]
  have hr := fun j => cell_setRow_same w2 w.heap.size j _ #[.string o.path, .string o.rpath, .string o.runpath, .bool o.hasR, .bool o.hasRun] _ _ E2.out
  have r0 := hr 0; have r1 := hr 1; have r2 := hr 2; have r3 := hr 3; have r4 := hr 4
  simp only [List.getElem?_toArray, List.getElem?_cons_zero, List.getElem?_cons_succ] at r0 r1 r2 r3 r4
  refine bodyPost_ret (by simp [results, Tryd.results29, go_sem, r0, r1, r2, r3, r4]; try rfl) rfl ?_
  exact ⟨rfl, below_setRow B2.out (Nat.le_refl _) _⟩
end Go.Proofs.YtppeapafnnanbaaDoor
