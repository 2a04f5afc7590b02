/- bits.Add64. -/
import Derived.Test.YtikpkblemegggaaErrs
namespace Go.Proofs.Ytikpkblemegggaa
open Go.RowKit

theorem add64 (x y c : Int) (hx : 0 ≤ x) (hy : 0 ≤ y) (hc0 : 0 ≤ c) (hc : c ≤ 1) (w : World) :
    (callFunc 51 #[.int .u64 x, .int .u64 y, .int .u64 c]).run Try.prog w = .ok (.value (.tuple #[.int .u64 ((x + y + c) % 18446744073709551616), .int .u64 ((x + y + c) / 18446744073709551616)])) w := by
  rw [run_callFunc_extern Try.func51 (by kernel_rfl) (by kernel_rfl) (by kernel_rfl) (e := add64Entry) (by kernel_rfl), run_add64 x y c hx hy hc0 hc]
  rfl
theorem add64_fits (x y : Int) (hx : 0 ≤ x) (hy : 0 ≤ y) (h : x + y < M64) (w : World) :
    (callFunc 51 #[.int .u64 x, .int .u64 y, .int .u64 0]).run Try.prog w = .ok (.value (.tuple #[.int .u64 (x + y), .int .u64 0])) w := by
  rw [M64_eq] at h
  rw [add64 x y 0 hx hy (by omega) (by omega) w, show (x + y + 0) % 18446744073709551616 = x + y from by omega, show (x + y + 0) / 18446744073709551616 = 0 from by omega]
theorem add64_over (x y : Int) (hx : 0 ≤ x) (hy : 0 ≤ y) (hx' : x < M64) (hy' : y < M64) (h : ¬ x + y < M64) (w : World) :
    (callFunc 51 #[.int .u64 x, .int .u64 y, .int .u64 0]).run Try.prog w = .ok (.value (.tuple #[.int .u64 (x + y - M64), .int .u64 1])) w := by
  rw [M64_eq] at *
  rw [add64 x y 0 hx hy (by omega) (by omega) w, show (x + y + 0) % 18446744073709551616 = x + y - (18446744073709551615 + 1) from by omega, show (x + y + 0) / 18446744073709551616 = 1 from by omega]

end Go.Proofs.Ytikpkblemegggaa
