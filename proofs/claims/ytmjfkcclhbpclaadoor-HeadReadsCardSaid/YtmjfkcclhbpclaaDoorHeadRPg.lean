/- Layer 4: what the document asks of a program header: its own walk. -/
import Derived.Test.YtmjfkcclhbpclaaDoorHeadRPow
import Derived.WalkSmall
namespace Go.Proofs.YtmjfkcclhbpclaaDoor
open Go.RowKit
set_option linter.unusedVariables false
set_option linter.unusedSimpArgs false
set_option maxRecDepth 100000

theorem bool_an {a b : Bool} (h : (a && !b) = true) : a = true ∧ b = false := by revert h; cases a <;> cases b <;> decide
theorem bool_or {a b : Bool} (h : ¬ (a && !b) = true) : a = false ∨ (a = true ∧ b = true) := by revert h; cases a <;> cases b <;> decide
def badO : Option (Nat × Nat) → Value
  | none => badV none
  | some x => badV (some (.spot x.1 x.2))
def RProgPost (n : Nat) (ps : List PT) (p : PT) (at_ : Nat) (w : World) (e : Ending) (w' : World) : Prop := e = .returned (badO (rOneF n ps p at_)) ∧ Below w.heap.size w w'
end Go.Proofs.YtmjfkcclhbpclaaDoor
