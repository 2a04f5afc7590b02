/- tls: a module of no image, owned; a store as it stands in memory. -/
import Derived.Test.YtbppajfpjhmcgaaKit
import Derived.Test.YtbppajfpjhmcgaaErrs
import Derived.Test.YtbppajfpjhmcgaaOwnS
import Derived.WalkMore
import Derived.Handy
import Derived.Lib.SliceRun
namespace Go.Proofs.Ytbppajfpjhmcgaa
open Go.RowKit
set_option linter.unusedVariables false
set_option linter.unusedSimpArgs false

set_option maxRecDepth 100000 in
theorem clone_nil (w : World) : Calls Try.prog 26 #[.slice none 0 0] w fun e w' => e = .returned (.slice none 0 0) ∧ w = w' := by
  have hbo : ∀ (w : World) (a : Option Addr) (n c n' c' : Nat), (binOp .eql 35 (.slice a n c) (.slice none n' c')).run Try.prog w = .ok (.bool a.isNone) w := fun w a n c n' c' => Lib.run_eql_slice_nil w _ _ a n c n' c' Try.underlying35
  go_enter Try.func26, Try.ntmps26
  go_wp2_with fail
  go_ret
  exact ⟨rfl, rfl⟩

set_option maxRecDepth 100000 in
set_option maxHeartbeats 4000000 in
theorem own_nil (s al : Nat) (w : World) : Calls Try.prog 21 #[.agg #[.slice none 0 0, .int .u64 (s : Int), .int .u64 (al : Int)]] w fun e w' => e = .returned (.agg #[.slice none 0 0, .int .u64 (s : Int), .int .u64 (al : Int)]) ∧ Below w.heap.size w w' := by
  have hcl := fun wx => clone_nil wx
  go_enter Try.func21, Try.ntmps21
  go_wp2_with (go_at_call 26; refine (hcl _).mono ?_; rintro e w' ⟨rfl, rfl⟩)
  go_returns
  exact ⟨rfl, ((Below.refl _ _).alloc (Nat.le_refl _) _).alloc (by simp) _⟩
end Go.Proofs.Ytbppajfpjhmcgaa
