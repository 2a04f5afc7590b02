/- Layer 13: does a condition hold: the program's answer. -/
import Derived.Test.YtmnjkaimpejohaaGreatDoorKit
import Derived.Test.YtmnjkaimpejohaaGreatDoorErrs
import Derived.BigRegion
import Derived.BigQuiet
namespace Go.Proofs.YtmnjkaimpejohaaGreatDoor
open Go.RowKit
set_option linter.unusedVariables false
set_option linter.unusedSimpArgs false

/-- the registers: sixteen, the place, the base; the flags -/
structure RG where
  r : Nat → Int
  cf : Bool
  zf : Bool
  sf : Bool
  ov : Bool
  pf : Bool
def RG.cells (g : RG) : Array Value := #[.int .u64 (g.r 0), .int .u64 (g.r 1), .int .u64 (g.r 2), .int .u64 (g.r 3), .int .u64 (g.r 4), .int .u64 (g.r 5), .int .u64 (g.r 6), .int .u64 (g.r 7), .int .u64 (g.r 8), .int .u64 (g.r 9), .int .u64 (g.r 10), .int .u64 (g.r 11), .int .u64 (g.r 12), .int .u64 (g.r 13), .int .u64 (g.r 14), .int .u64 (g.r 15), .int .u64 (g.r 16), .int .u64 (g.r 17), .bool g.cf, .bool g.zf, .bool g.sf, .bool g.ov, .bool g.pf]
/-- condition k of the sixteen -/
def holdsF (g : RG) (k : Nat) : Bool := match k with
  | 0 => g.ov
  | 1 => g.cf
  | 2 => g.zf
  | 3 => g.cf || g.zf
  | 4 => g.sf
  | 5 => g.pf
  | 6 => g.sf != g.ov
  | _ => g.zf || (g.sf != g.ov)
def testF (g : RG) (k : Nat) : Bool := if k % 2 = 1 then !(holdsF g (k / 2)) else holdsF g (k / 2)
theorem and15 (c : Int) : bits .and .i64 c 15 = c % 16 := by
  show IntKind.i64.wrap ((BitVec.ofInt 64 c &&& BitVec.ofInt 64 ((15 : Nat) : Int)).toNat : Int) = _
  have e : ∀ n : Nat, n &&& 15 = n % 16 := fun n => Nat.and_two_pow_sub_one_eq_mod n 4
  rw [BitVec.toNat_and, BitVec.toNat_ofInt, ofInt_u64 15 (by omega), e, IntKind.wrap_i64]
  omega
set_option maxRecDepth 100000 in
set_option maxHeartbeats 16000000 in
theorem etest_any (g : RG) (cond : Int) (w : World) :
    Calls Tryz.prog 8 #[.agg g.cells, .int .i64 cond] w fun e w' => e = .returned (.bool (testF g (cond % 16).toNat)) ∧ Below w.heap.size w w' := by
  obtain ⟨k, hk⟩ : ∃ k : Nat, (k : Int) = cond % 16 := ⟨(cond % 16).toNat, by omega⟩
  have hk16 : k < 16 := by omega
  have a15 := and15 cond
  rw [← hk] at a15 ⊢
  rw [Int.toNat_natCast]
  clear hk
  obtain ⟨r, cf, zf, sf, ov, pf⟩ := g
  unfold RG.cells
  simp only []
  have hcase : k = 0 ∨ k = 1 ∨ k = 2 ∨ k = 3 ∨ k = 4 ∨ k = 5 ∨ k = 6 ∨ k = 7 ∨ k = 8 ∨ k = 9 ∨ k = 10 ∨ k = 11 ∨ k = 12 ∨ k = 13 ∨ k = 14 ∨ k = 15 := by omega
  clear hk16
  rcases hcase with rfl | rfl | rfl | rfl | rfl | rfl | rfl | rfl | rfl | rfl | rfl | rfl | rfl | rfl | rfl | rfl
  all_goals
    go_enter Tryz.func8, Tryz.ntmps8
    cases cf <;> cases zf <;> (
      go_wp2_with fail
      go_ret
      exact ⟨by cases sf <;> cases ov <;> cases pf <;> rfl, by go_grown⟩)
end Go.Proofs.YtmnjkaimpejohaaGreatDoor
