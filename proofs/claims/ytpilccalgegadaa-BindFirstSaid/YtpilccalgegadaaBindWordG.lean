/- Layer 17: a symbol's version word, of whatever object. -/
import Derived.Test.YtpilccalgegadaaKit
namespace Go.Proofs.Ytpilccalgegadaa
open Go.RowKit
set_option linter.unusedVariables false
set_option linter.unusedSimpArgs false

/-- a symbol's version word, if there is one -/
def wordG (has : Bool) (words : List Int) (k : Nat) : Int × Bool := if has = true ∧ k < words.length then (words.getD k 0, true) else (0, false)

set_option maxRecDepth 100000 in
set_option maxHeartbeats 8000000 in
theorem bword_any (C : Array Value) (h54 : C.size = 54) (has : Bool) (wa : Option Addr) (wl wc : Nat) (words : List Int) (k : Nat) (w : World) (h46 : C[46]? = some (.bool has)) (h47 : C[47]? = some (.slice wa wl wc)) (hl : words.length = wl) (hwl : wl ≤ 140737488355328) (hr : Row .i64 w wa words) :
    Calls Try.prog 20 #[.agg C, .int .i64 (k : Int)] w fun e w' => e = .returned (.tuple #[.int .i64 (wordG has words k).1, .bool (wordG has words k).2]) ∧ Below w.heap.size w w' := by
  have HB : Hid (Below w.heap.size w (w.alloc (.cells C 55))) := Lib.hid ((Below.refl _ _).alloc (Nat.le_refl _) _)
  have c46 : (w.alloc (.cells C 55)).cell? ⟨w.heap.size, 46, none⟩ = some (.bool has) := by rw [cell_of_row _ _ 46 _ _ _ (heap_alloc_new _ _)]; exact h46
  have c47 : (w.alloc (.cells C 55)).cell? ⟨w.heap.size, 47, none⟩ = some (.slice wa wl wc) := by rw [cell_of_row _ _ 47 _ _ _ (heap_alloc_new _ _)]; exact h47
  clear h46 h47
  have h0 : ¬ (has = true ∧ k < words.length) → wordG has words k = (0, false) := fun h => by unfold wordG; rw [if_neg h]
  have h1 : has = true ∧ k < words.length → wordG has words k = (words.getD k 0, true) := fun h => by unfold wordG; rw [if_pos h]
  have HR := Lib.hid (hr.below HB.out)
  cases has with
  | false =>
    rw [h0 (by simp)]
    clear h0 h1 hr hl hwl
    go_enter Try.func20, Try.ntmps20
    go_wp2_with fail
    go_ret2
    exact ⟨rfl, HB.out⟩
  | true =>
    by_cases hk : k < wl
    · rw [h1 ⟨rfl, by omega⟩]
      obtain ⟨b, o, rfl, hc⟩ := HR.out k (by omega)
      have hc2 : (w.alloc (.cells C 55)).cell? ⟨b, o + k, none⟩ = some (.int .i64 (words.getD k 0)) := hc
      generalize words.getD k 0 = v at *
      have g1 : ¬ (wl : Int) ≤ (k : Int) := by omega
      have g2 : (k : Int) < (wl : Int) := by omega
      clear h0 h1 hr hl hc HR hk
      go_enter Try.func20, Try.ntmps20
      go_wp2_with fail
      go_ret2
      exact ⟨rfl, HB.out⟩
    · rw [h0 (by intro h; have := h.2; omega)]
      have g1 : (wl : Int) ≤ (k : Int) := by omega
      clear h0 h1 hr hl HR hk
      go_enter Try.func20, Try.ntmps20
      go_wp2_with fail
      go_ret2
      exact ⟨rfl, HB.out⟩
end Go.Proofs.Ytpilccalgegadaa
