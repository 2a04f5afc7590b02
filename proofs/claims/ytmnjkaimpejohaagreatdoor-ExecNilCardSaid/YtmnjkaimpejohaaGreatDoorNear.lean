/- A world that is another but for one block, and what is new. Nothing of the program is named. -/
import Derived.Test.YtmnjkaimpejohaaGreatDoorKit
import Derived.Test.YtmnjkaimpejohaaGreatDoorOwnS
import Derived.Deep.MidRow
namespace Go.Proofs.YtmnjkaimpejohaaGreatDoor
open Go.RowKit
set_option linter.unusedVariables false
set_option linter.unusedSimpArgs false

theorem own_off {w : World} {B sz n : Nat} {e T : TypeId} {v : Value} {xs : List Value} {b : Nat} {cs : Array Value} (h : w.ownsRow B e sz v n xs) (hb : w.heap[b]? = some (.cells cs T)) (hne : e ≠ T) : v.ownBlock ≠ some b := by
  intro hv
  rcases h.2 with ⟨rfl, -⟩ | ⟨g, cap, cur, rfl, -, hg, -⟩
  · cases hv
  · have : g = b := by simpa [Value.ownBlock] using hv
    subst this
    rw [hb] at hg
    simp only [Option.some.injEq, Obj.cells.injEq] at hg
    exact hne hg.2.1.symm
/-- all that stood in w stands in w', but for the block bo -/
structure Near (bo : Nat) (w w' : World) : Prop where
  below : Below bo w w'
  rest : ∀ k, bo < k → k < w.heap.size → w'.heap[k]? = w.heap[k]?
theorem Near.refl (bo : Nat) (w : World) : Near bo w w := ⟨Below.refl _ _, fun _ _ _ => rfl⟩
theorem Near.size {bo : Nat} {w w' : World} (h : Near bo w w') : w.heap.size ≤ w'.heap.size := h.below.size
theorem Near.of {bo : Nat} {w w' : World} (h : Below w.heap.size w w') (hb : bo < w.heap.size) : Near bo w w' := ⟨h.mono (by omega), fun k _ hk => h.block k hk⟩
theorem Near.trans {bo : Nat} {a b c : World} (h : Near bo a b) (k : Near bo b c) : Near bo a c :=
  ⟨h.below.trans k.below, fun j h1 h2 => (k.rest j h1 (by have := h.size; omega)).trans (h.rest j h1 h2)⟩
theorem Near.step {bo : Nat} {a b c : World} (h : Near bo a b) (k : Below b.heap.size b c) (hb : bo < a.heap.size) : Near bo a c := h.trans (Near.of k (by have := h.size; omega))
theorem Near.set {bo : Nat} {a b : World} (h : Near bo a b) (j : Nat) (v : Value) : Near bo a (b.setCell ⟨bo, j, none⟩ v) :=
  ⟨h.below.setCell (Nat.le_refl _) v, fun k h1 h2 => (Below.heap_setCell _ _ _ _ (by show k ≠ bo; omega)).trans (h.rest k h1 h2)⟩
theorem Near.block {bo : Nat} {w w' : World} (h : Near bo w w') {g : Nat} (hg : g < w.heap.size) (hne : g ≠ bo) : w'.heap[g]? = w.heap[g]? := by
  rcases Nat.lt_or_gt_of_ne hne with h1 | h1
  · exact h.below.block g h1
  · exact h.rest g h1 hg
/-- behind an append to a row of one's own that isn't the block -/
theorem Near.grown {bo : Nat} {a b c : World} {row : Option Nat} (h : Near bo a b) (hg : b.grownBy c row) (hb : bo < a.heap.size) (hr : ∀ k, row = some k → a.heap.size ≤ k) : Near bo a c :=
  ⟨h.below.grown hg (by have := h.size; omega) (fun k hk => by have := hr k hk; omega), fun k h1 h2 => (hg.block k (by have := h.size; omega) (fun e => by have := hr k e.symm; omega)).trans (h.rest k h1 h2)⟩
theorem OwnS.near {bo : Nat} {w w' : World} {B : Nat} {e T : TypeId} {sz : Nat} {v : Value} {rows : List (List Value)} {C : Array Value} (h : OwnS w B e sz v rows) (hb : w.heap[bo]? = some (.cells C T)) (hne : e ≠ T) (hn : Near bo w w') : OwnS w' B e sz v rows := by
  have h0 := own_off h.1 hb hne
  obtain ⟨⟨h1, h2⟩, h3⟩ := h
  refine ⟨⟨h1, ?_⟩, h3⟩
  rcases h2 with h2 | ⟨g, cap, cur, rfl, hB, hg, r⟩
  · exact .inl h2
  · exact .inr ⟨g, cap, cur, rfl, hB, by rw [hn.block (lt_of_block hg) (fun e => h0 (by rw [e]; rfl))]; exact hg, r⟩
theorem OwnI.near {bo : Nat} {w w' : World} {B : Nat} {e T : TypeId} {k : IntKind} {v : Value} {xs : List Int} {C : Array Value} (h : OwnI w B e k v xs) (hb : w.heap[bo]? = some (.cells C T)) (hne : e ≠ T) (hn : Near bo w w') : OwnI w' B e k v xs := by
  have h0 := own_off h hb hne
  obtain ⟨h1, h2⟩ := h
  refine ⟨h1, ?_⟩
  rcases h2 with h2 | ⟨g, cap, cur, rfl, hB, hg, r⟩
  · exact .inl h2
  · exact .inr ⟨g, cap, cur, rfl, hB, by rw [hn.block (lt_of_block hg) (fun e => h0 (by rw [e]; rfl))]; exact hg, r⟩
/-- the block itself, behind a store -/
theorem block_set {w : World} {bo j : Nat} {C : Array Value} {T : TypeId} {v : Value} (h : w.heap[bo]? = some (.cells C T)) : (w.setCell ⟨bo, j, none⟩ v).heap[bo]? = some (.cells (C.setIfInBounds j v) T) := heap_setCell_same _ bo j _ _ _ h
/-- a list of values in the midst of a block -/
theorem range_of {w : World} {bo o : Nat} {C : Array Value} {T : TypeId} {cs : List Value} (h : w.heap[bo]? = some (.cells C T)) (hc : ∀ j v, cs[j]? = some v → C[o + j]? = some v) : w.rangeAt bo o cs := by
  intro j v hv
  rw [cell_of_row _ _ (o + j) _ _ _ h]
  exact hc j v hv
end Go.Proofs.YtmnjkaimpejohaaGreatDoor
