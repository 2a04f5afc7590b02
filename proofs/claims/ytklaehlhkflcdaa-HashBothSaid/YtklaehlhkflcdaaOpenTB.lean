/- Layer 7: the statement on tables of the second kind, as the frame wants it. -/
import Derived.Test.YtklaehlhkflcdaaOpenT
import Derived.Test.YtklaehlhkflcdaaHashBothL
namespace Go.Proofs.Ytklaehlhkflcdaa
open Go.RowKit Go.WideShapes
set_option linter.unusedVariables false

theorem walk_HashBoth (a0 : Option Addr) (cap0 : Nat) (T0 : List ByteArray) (a1 : Int) (a2 : Int) (a3 : ByteArray) (w : World) (w0 : TRow w a0 T0) (n0 : a0 = none → T0.length = 0 ∧ cap0 = 0) (s0 : ∀ t ∈ T0, t.size ≤ 140737488351232) (l0 : T0.length ≤ 140737488351232) (w1 : (Lit.int .i64 a1).wf = true) (w2 : (Lit.int .i64 a2).wf = true) (w3 : a3.size ≤ maxLen) (s3 : a3.size ≤ 140737488351232) :
    Calls Try.prog 4 #[.slice a0 T0.length cap0, .int .i64 a1, .int .i64 a2, .string a3] w fun e w' => e = .returned (.bool true) ∧ Below w.heap.size w w' := by
  have hb := bounds_i64 w1
  have hc := bounds_i64 w2
  exact both_at a0 cap0 T0 a1 a2 a3 w w0 n0 s0 s3 l0 (by omega) (by omega) (by omega) (by omega)
end Go.Proofs.Ytklaehlhkflcdaa
