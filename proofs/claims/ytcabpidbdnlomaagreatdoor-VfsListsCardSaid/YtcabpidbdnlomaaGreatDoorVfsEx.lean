/- Layer 3: the nodes of the document's example, in memory. -/
import Derived.Test.YtcabpidbdnlomaaGreatDoorVfsShownM
namespace Go.Proofs.YtcabpidbdnlomaaGreatDoor
open Go.RowKit
set_option linter.unusedVariables false
set_option linter.unusedSimpArgs false

def exNodes (b : Nat) : List Nd := [⟨⟨#[47, 108, 105, 98]⟩, 1, none, 0, 0, ⟨#[]⟩, false⟩, ⟨⟨#[47, 108, 105, 98, 47, 97]⟩, 0, some ⟨b, 0, none⟩, 1, 1, ⟨#[]⟩, false⟩, ⟨⟨#[47, 108]⟩, 2, none, 0, 0, ⟨#[108, 105, 98]⟩, false⟩, ⟨⟨#[47, 98]⟩, 3, none, 0, 0, ⟨#[47, 108, 105, 98, 47, 97]⟩, false⟩, ⟨⟨#[47, 120]⟩, 2, none, 0, 0, ⟨#[47, 120]⟩, false⟩]
theorem exNodes_tri (b : Nat) : (exNodes b).map tri = L5 := rfl
def exBytes (i : Nat) : List Nat := if i = 1 then [1] else []
/-- cells of nodes in a fresh block -/
theorem rows_new {w : World} {g : Nat} {T : TypeId} {fr : Nat × Nat} (L : List Nd) (h : w.heap[g]? = some (.cells ((L.map fun n => n.cells.toList).flatten).toArray T fr)) (hfr : fr = (0, 0)) : NdRow w (some ⟨g, 0, none⟩) L := by
  intro i hi
  refine ⟨g, 0, rfl, lt_of_block h, fun j hj => ?_⟩
  subst hfr
  rw [Nat.zero_add, cell_of_row _ _ _ _ _ _ h]
  have := flatten_at (sz := 5) (L.map fun n => n.cells.toList) (by
    intro r hr
    obtain ⟨x, -, rfl⟩ := List.mem_map.1 hr
    rfl) i j (by rw [List.length_map]; exact hi) hj
  rw [List.getElem?_toArray, this]
  simp

set_option maxRecDepth 100000 in
set_option maxHeartbeats 4000000 in
theorem nodes_any (w : World) :
    Calls Tryz.prog 10 #[] w fun e w' => ∃ a, e = .returned (.slice a 5 5) ∧ NdRow w' a (exNodes w.heap.size) ∧ (∀ i, (hi : i < (exNodes w.heap.size).length) → NdOk w' ((exNodes w.heap.size)[i]'hi) (exBytes i)) ∧ Below w.heap.size w w' := by
  have key : ∀ w', w'.heap[w.heap.size + 1]? = some (.cells (((exNodes w.heap.size).map fun n => n.cells.toList).flatten).toArray 49) → w'.heap[w.heap.size]? = some (.cells #[.int .u8 1] 5) → Below w.heap.size w w' → (∃ a, (Ending.returned (.slice (some ⟨w.heap.size + 1, 0, none⟩) 5 5) = .returned (.slice a 5 5)) ∧ NdRow w' a (exNodes w.heap.size) ∧ (∀ i, (hi : i < (exNodes w.heap.size).length) → NdOk w' ((exNodes w.heap.size)[i]'hi) (exBytes i)) ∧ Below w.heap.size w w') := by
    intro w' h1 h2 hb
    refine ⟨_, rfl, rows_new _ h1 rfl, ?_, hb⟩
    intro i hi
    have hi5 : i < 5 := hi
    match i, hi5 with
    | 0, _ => exact ⟨(fun i hi => by cases hi), rfl, Nat.zero_le _, (fun _ => ⟨rfl, rfl⟩), Nat.le_of_ble_eq_true rfl, Nat.le_of_ble_eq_true rfl⟩
    | 1, _ =>
      refine ⟨fun j hj => ?_, rfl, (show (1 : Nat) ≤ 140737488355328 by decide), (fun h => by cases h), Nat.le_of_ble_eq_true rfl, Nat.le_of_ble_eq_true rfl⟩
      have hj1 : j < 1 := hj
      have hj0 : j = 0 := by omega
      subst hj0
      refine ⟨w.heap.size, 0, rfl, ?_⟩
      rw [cell_of_row _ _ _ _ _ _ h2]
      rfl
    | 2, _ => exact ⟨(fun i hi => by cases hi), rfl, Nat.zero_le _, (fun _ => ⟨rfl, rfl⟩), Nat.le_of_ble_eq_true rfl, Nat.le_of_ble_eq_true rfl⟩
    | 3, _ => exact ⟨(fun i hi => by cases hi), rfl, Nat.zero_le _, (fun _ => ⟨rfl, rfl⟩), Nat.le_of_ble_eq_true rfl, Nat.le_of_ble_eq_true rfl⟩
    | 4, _ => exact ⟨(fun i hi => by cases hi), rfl, Nat.zero_le _, (fun _ => ⟨rfl, rfl⟩), Nat.le_of_ble_eq_true rfl, Nat.le_of_ble_eq_true rfl⟩
  have KEY := Lib.hid key
  clear key
  go_enter Tryz.func10, Tryz.ntmps10
  go_wp2
  go_ret
  refine KEY.out _ ?_ ?_ ?_
  · have := heap_alloc_new (w.alloc (.cells #[.int .u8 1] 5)) (.cells (((exNodes w.heap.size).map fun n => n.cells.toList).flatten).toArray 49)
    simpa [exNodes, Nd.cells] using this
  · exact (heap_alloc_old _ _ (by simp)).trans (heap_alloc_new _ _)
  · exact ((Below.refl _ _).alloc (Nat.le_refl _) _).alloc (by simp) _
end Go.Proofs.YtcabpidbdnlomaaGreatDoor
