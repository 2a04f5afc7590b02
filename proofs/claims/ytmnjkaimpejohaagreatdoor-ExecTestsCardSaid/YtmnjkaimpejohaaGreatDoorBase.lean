/- Plain facts that the walks of every layer use: slices of numbers in memory, sums, 64-bit numbers. Nothing of the program is named. -/
import Derived.Test.YtmnjkaimpejohaaGreatDoorProg
import Derived.WalkKit
import Derived.Handy
import Derived.WalkSpells
import Derived.WalkLawsBesides
import Derived.Lib.Hide
import Derived.ProofKit
import Derived.OpenShut
namespace Go.Proofs.YtmnjkaimpejohaaGreatDoor
open Go.RowKit

def M64 : Int := 18446744073709551616
theorem M64_eq : M64 = 18446744073709551615 + 1 := rfl

/-- A slice of numbers that can be read: wherever it has an element, there is an address, and the cell lies there. -/
def Row (k : IntKind) (w : World) (a : Option Addr) (xs : List Int) : Prop :=
  ∀ i, i < xs.length → ∃ b off, a = some ⟨b, off, none⟩ ∧ w.cell? ⟨b, off + i, none⟩ = some (.int k (xs.getD i 0))

theorem Row.below {k : IntKind} {w w' : World} {a : Option Addr} {xs : List Int} (h : Row k w a xs) (hb : Below w.heap.size w w') : Row k w' a xs := by
  intro i hi
  obtain ⟨b, off, e, hc⟩ := h i hi
  refine ⟨b, off, e, ?_⟩
  have hlt : b < w.heap.size := by
    have := World.block_lt_of_cell? w _ hc
    simpa using this
  rw [hb.cell (p := ⟨b, off + i, none⟩) hlt]
  exact hc

theorem Row.new (k : IntKind) (w : World) (xs : List Int) (T : TypeId) : Row k (w.alloc (.cells (xs.map (Value.int k)).toArray T)) (some ⟨w.heap.size, 0, none⟩) xs := by
  intro i hi
  refine ⟨w.heap.size, 0, rfl, ?_⟩
  rw [World.cell?_alloc_new]
  simp [hi]

def U64s (xs : List Int) : Prop := ∀ x ∈ xs, 0 ≤ x ∧ x < M64
def Bytes (xs : List Int) : Prop := ∀ x ∈ xs, 0 ≤ x ∧ x < 256

theorem take_succ_sum (xs : List Int) (k : Nat) (h : k < xs.length) : (xs.take (k + 1)).sum = (xs.take k).sum + xs[k] := by
  rw [List.take_succ_eq_append_getElem h, List.sum_append]; simp

theorem sum_nonneg (xs : List Int) (h : U64s xs) : 0 ≤ xs.sum := by
  induction xs with
  | nil => simp
  | cons x xs ih =>
    have := (h x (by simp)).1
    have := ih (fun y hy => h y (by simp [hy]))
    simp; omega

theorem sum_take_le (xs : List Int) (k : Nat) (h : U64s xs) : (xs.take k).sum ≤ xs.sum := by
  have e : xs.sum = (xs.take k).sum + (xs.drop k).sum := by rw [← List.sum_append, List.take_append_drop]
  have := sum_nonneg (xs.drop k) (fun y hy => h y (List.mem_of_mem_drop hy))
  omega

theorem ret2 {a b c d : Value} (h1 : a = c) (h2 : b = d) : Ending.returned (.tuple #[a, b]) = .returned (.tuple #[c, d]) := by rw [h1, h2]
theorem ret1 {a b : Value} (h1 : a = b) : Ending.returned a = .returned b := by rw [h1]
theorem vint {k : IntKind} {a b : Int} (h : a = b) : Value.int k a = .int k b := by rw [h]

/-- What the frame tells the walk of a slice of integers that came in. -/
def IsRow (k : IntKind) (w : World) (a : Option Addr) (len cap : Nat) (zs : List Int) : Prop :=
  (a = none ∧ len = 0 ∧ cap = 0 ∧ zs = []) ∨
  ∃ x, a = some x ∧ len ≤ cap ∧ cap ≤ maxLen ∧ zs.length = cap ∧ (∀ i, i < zs.length → w.cell? (x.add i) = some (.int k (zs.getD i 0))) ∧ ∀ n ∈ zs, (Lit.int k n).wf = true

theorem IsRow.row {k : IntKind} {w : World} {a : Option Addr} {len cap : Nat} {zs : List Int} (h : IsRow k w a len cap zs) :
    ∃ xs : List Int, len = xs.length ∧ Row k w a xs ∧ (∀ n ∈ xs, (Lit.int k n).wf = true) ∧ len ≤ cap ∧ len ≤ maxLen ∧ (a = none → len = 0 ∧ cap = 0) := by
  rcases h with ⟨rfl, rfl, rfl, rfl⟩ | ⟨x, rfl, hl, hm, hz, hc, hw⟩
  · exact ⟨[], rfl, fun i hi => by simp at hi, fun n hn => by simp at hn, Nat.le_refl _, by unfold maxLen; omega, fun _ => ⟨rfl, rfl⟩⟩
  · refine ⟨zs.take len, by simp; omega, ?_, fun n hn => hw n (List.mem_of_mem_take hn), hl, by omega, fun h => by cases h⟩
    intro i hi
    simp only [List.length_take] at hi
    have h0 := hc i (by omega)
    obtain ⟨b, off, spot⟩ := x
    have hs : spot = none := by simpa [Addr.add] using World.cell?_spot (hc 0 (by omega))
    subst hs
    rw [WideShapes.add_plain] at h0
    refine ⟨b, off, rfl, ?_⟩
    have e : (zs.take len).getD i 0 = zs.getD i 0 := by simp [List.getD, show i < len from by omega]
    rw [e]
    exact h0

theorem wf_u64_bounds {n : Int} (h : (Lit.int .u64 n).wf = true) : 0 ≤ n ∧ n < M64 := by
  have := bounds_u64 h
  rw [M64_eq]; omega
theorem wf_u8_bounds {n : Int} (h : (Lit.int .u8 n).wf = true) : 0 ≤ n ∧ n < 256 := by
  have := bounds_u8 h
  omega

end Go.Proofs.YtmnjkaimpejohaaGreatDoor
