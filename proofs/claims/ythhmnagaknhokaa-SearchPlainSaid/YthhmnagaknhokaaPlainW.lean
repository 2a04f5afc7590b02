/- Layer 14: the statement on texts without a dollar, as the frame wants it. -/
import Derived.Test.YthhmnagaknhokaaPlain
namespace Go.Proofs.Ythhmnagaknhokaa
open Go.RowKit
set_option linter.unusedVariables false

theorem walk_SearchPlain (a0 a1 : ByteArray) (w : World) (w0 : a0.size ≤ maxLen) (s0 : a0.size ≤ 140737488351232) (w1 : a1.size ≤ maxLen) (s1 : a1.size ≤ 140737488351232) :
    Calls Try.prog 3 #[.string a0, .string a1] w fun e w' => e = .returned (.bool true) ∧ Below w.heap.size w w' := plain_at a0 a1 w s0 s1
end Go.Proofs.Ythhmnagaknhokaa
