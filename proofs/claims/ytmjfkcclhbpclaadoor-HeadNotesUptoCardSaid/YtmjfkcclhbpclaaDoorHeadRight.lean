/- Layer 4: an error is the one that the document tells. -/
import Derived.Test.YtmjfkcclhbpclaaDoorHeadRefI
import Derived.Test.YtmjfkcclhbpclaaDoorIsSpot
namespace Go.Proofs.YtmjfkcclhbpclaaDoor
open Go.RowKit
set_option linter.unusedVariables false
set_option linter.unusedSimpArgs false
set_option maxRecDepth 100000
set_option maxHeartbeats 8000000 in
theorem hright_spot (a c : Nat) (v : Value) (w : World) (h : ErrAt w v (some (a, c))) (hg : ErrType w) :
    Calls Tryd.prog 13 #[v, .agg #[.int .i64 (c : Int), .bool true, .int .u64 (a : Int)]] w fun e w' => e = .returned (.bool true) ∧ Below w.heap.size w w' := by
  obtain ⟨sb, rfl, hs⟩ := h
  have B1 : Hid (Below w.heap.size w (w.alloc (.cells #[.int .i64 (c : Int), .bool true, .int .u64 (a : Int)] 43))) := Lib.hid (ballo (Below.refl _ _) _)
  have hs1 := (B1.out.block _ (lt_of_block hs)).trans hs
  have HI := Lib.hid (is_spot sb (a : Int) (c : Int) (w.alloc (.cells #[.int .i64 (c : Int), .bool true, .int .u64 (a : Int)] 43)) (hg.below B1.out) (by rw [cell_of_row _ _ 0 _ _ _ hs1]; rfl) (by rw [cell_of_row _ _ 1 _ _ _ hs1]; rfl))
  clear hs hs1 hg
  go_enter Tryd.func13, Tryd.ntmps13
  go_wp2_with fail
  refine HI.out.mono ?_
  rintro e w2 ⟨rfl, hb2⟩
  have B2 := Lib.hid (bstep B1.out hb2)
  clear hb2
  go_wp2_with fail
  go_ret
  exact ⟨rfl, B2.out⟩
theorem bad_code (c : Nat) (v : Value) (w : World) (hv : v = errV (c : Int)) (hc : c ≤ 30) :
    Calls Tryd.prog 13 #[v, .agg #[.int .i64 (c : Int), .bool false, .int .u64 0]] w fun e w' => e = .returned (.bool true) ∧ Below w.heap.size w w' := by
  subst hv
  have B1 : Hid (Below w.heap.size w (w.alloc (.cells #[.int .i64 (c : Int), .bool false, .int .u64 0] 43))) := Lib.hid (ballo (Below.refl _ _) _)
  have HC := Lib.hid (fun wx => code_any (c : Int) wx (by omega) (by omega))
  generalize errV (c : Int) = v at *
  go_enter Tryd.func13, Tryd.ntmps13
  go_wp2_with fail
  go_quiet ((go_at_call 34; exact Calls.quiet_of_same ((HC.out _).mono (by rintro e w9 ⟨rfl, rfl⟩; exact ⟨rfl, rfl⟩))))
  go_wp2_with fail
  go_ret
  exact ⟨by simp, below_drewN B1.out nq⟩
theorem hright_bad (x : HErr) (v : Value) (w : World) (h : ErrH w v x) (hg : ErrType w) (hc : ∀ c, x = .code c → 0 < c ∧ c ≤ 30) :
    Calls Tryd.prog 13 #[v, badV (some x)] w fun e w' => e = .returned (.bool true) ∧ Below w.heap.size w w' := by
  cases x with
  | spot a c => exact hright_spot a c v w h hg
  | code c =>
    obtain ⟨h1, h2⟩ := hc c rfl
    refine bad_code c v w ?_ h2
    unfold errV
    rw [if_neg (by omega)]
    exact h
theorem hright_ok (w : World) : Calls Tryd.prog 13 #[.nilIface, badV none] w fun e w' => e = .returned (.bool true) ∧ Below w.heap.size w w' := bad_code 0 .nilIface w rfl (by decide)
end Go.Proofs.YtmjfkcclhbpclaaDoor
