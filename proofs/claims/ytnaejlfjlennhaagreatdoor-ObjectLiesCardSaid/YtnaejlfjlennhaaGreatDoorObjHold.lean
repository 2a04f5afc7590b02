/- Layer 10: a world in which an object's block holds what its head tells, whatever its later cells. -/
import Derived.Test.YtnaejlfjlennhaaGreatDoorObjTexts
namespace Go.Proofs.YtnaejlfjlennhaaGreatDoor
open Go.RowKit
set_option linter.unusedVariables false
set_option linter.unusedSimpArgs false

/-- near to w, and the object's cells of Head, Dynamic, Dyn and Bytes as in C -/
structure Hold (bo : Nat) (C : Array Value) (w wx : World) : Prop where
  near : Near bo w wx
  keep : ∃ C', wx.heap[bo]? = some (.cells C' 40) ∧ C'.size = 54 ∧ ∀ j, (j < 41 ∨ j = 53) → C'[j]? = C[j]?
theorem Hold.start {bo : Nat} {C : Array Value} {w : World} (h : w.heap[bo]? = some (.cells C 40)) (hs : C.size = 54) : Hold bo C w w := ⟨Near.refl _ _, C, h, hs, fun _ _ => rfl⟩
theorem Hold.drew {bo : Nat} {C : Array Value} {w wx : World} (h : Hold bo C w wx) : Hold bo C w wx.drew := ⟨h.near.drew, h.keep⟩
theorem Hold.step {bo : Nat} {C : Array Value} {w a b : World} (h : Hold bo C w a) (k : Below a.heap.size a b) (hb : bo < w.heap.size) : Hold bo C w b := by
  obtain ⟨C', h1, h2⟩ := h.keep
  exact ⟨h.near.step k hb, C', (k.block _ (lt_of_block h1)).trans h1, h2⟩
theorem Hold.set {bo j : Nat} {C : Array Value} {w a : World} {v : Value} (h : Hold bo C w a) (hj : 41 ≤ j) (hj2 : j ≠ 53) : Hold bo C w (a.setCell ⟨bo, j, none⟩ v) := by
  obtain ⟨C', h1, h2, h3⟩ := h.keep
  refine ⟨h.near.set j v, C'.setIfInBounds j v, block_set h1, by rw [Array.size_setIfInBounds]; exact h2, fun i hi => ?_⟩
  rw [Array.getElem?_setIfInBounds_ne (by omega)]
  exact h3 i hi
theorem Hold.to {bo : Nat} {C C' : Array Value} {w a : World} (h : Near bo w a) (h1 : a.heap[bo]? = some (.cells C' 40)) (h2 : C'.size = 54) (h3 : ∀ j, (j < 41 ∨ j = 53) → C'[j]? = C[j]?) : Hold bo C w a := ⟨h, C', h1, h2, h3⟩
theorem Hold.cell {bo : Nat} {C : Array Value} {w wx : World} (h : Hold bo C w wx) {j : Nat} {v : Value} (hj : j < 41 ∨ j = 53) (hc : C[j]? = some v) : wx.cell? ⟨bo, j, none⟩ = some v := by
  obtain ⟨C', h1, h2, h3⟩ := h.keep
  rw [cell_of_row _ _ j _ _ _ h1, h3 j hj, hc]
theorem Hold.range {bo o : Nat} {C : Array Value} {w wx : World} {cs : List Value} (h : Hold bo C w wx) (hl : o + cs.length ≤ 41) (hc : ∀ j v, cs[j]? = some v → C[o + j]? = some v) : wx.rangeAt bo o cs := by
  intro j v hv
  have hj : j < cs.length := (List.getElem?_eq_some_iff.1 hv).1
  exact h.cell (by omega) (hc j v hv)
theorem own_prowO {w : World} {B n pc : Nat} {pa : Option Addr} {ps : List PT} (h : OwnS w B 54 7 (.slice pa n pc) (ps.map PT.cells)) (hw : ∀ p ∈ ps, p.wf) : PRow w pa ps := by
  obtain ⟨hl, hr, -, -⟩ := h.at
  intro i hi
  obtain ⟨b, o, hb, hlt, hc⟩ := hr i (by rw [List.length_map]; exact hi)
  refine ⟨hw _ (List.getElem_mem hi), b, o, hb, hlt, fun j hj => ?_⟩
  rw [hc j hj, List.getElem_map]
end Go.Proofs.YtnaejlfjlennhaaGreatDoor
