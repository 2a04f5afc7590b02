/- Layer 1, the functions on numbers: sums, products, widths. -/
import Derived.Test.YtmjfkcclhbpclaaDoorErrs
namespace Go.Proofs.YtmjfkcclhbpclaaDoor
open Go.RowKit

def sumF (xs : List Int) : Int × Bool := if xs.sum < M64 then (xs.sum, true) else (0, false)
def over (b : Bool) : Int := if b then 0 else 28
theorem over_yes : over true = 0 := rfl
theorem over_no : over false = 28 := rfl
theorem sumF_yes {xs : List Int} (h : xs.sum < M64) : sumF xs = (xs.sum, true) := if_pos h
theorem sumF_no {xs : List Int} (h : ¬ xs.sum < M64) : sumF xs = (0, false) := if_neg h










































theorem add64 (x y c : Int) (hx : 0 ≤ x) (hy : 0 ≤ y) (hc0 : 0 ≤ c) (hc : c ≤ 1) (w : World) :
    (callFunc 86 #[.int .u64 x, .int .u64 y, .int .u64 c]).run Tryd.prog w = .ok (.value (.tuple #[.int .u64 ((x + y + c) % 18446744073709551616), .int .u64 ((x + y + c) / 18446744073709551616)])) w := by
  rw [run_callFunc_extern Tryd.func86 (by kernel_rfl) (by kernel_rfl) (by kernel_rfl) (e := add64Entry) (by kernel_rfl), run_add64 x y c hx hy hc0 hc]
  rfl
theorem add64_fits (x y : Int) (hx : 0 ≤ x) (hy : 0 ≤ y) (h : x + y < M64) (w : World) :
    (callFunc 86 #[.int .u64 x, .int .u64 y, .int .u64 0]).run Tryd.prog w = .ok (.value (.tuple #[.int .u64 (x + y), .int .u64 0])) w := by
  rw [M64_eq] at h
  rw [add64 x y 0 hx hy (by omega) (by omega) w, show (x + y + 0) % 18446744073709551616 = x + y from by omega, show (x + y + 0) / 18446744073709551616 = 0 from by omega]
theorem add64_over (x y : Int) (hx : 0 ≤ x) (hy : 0 ≤ y) (hx' : x < M64) (hy' : y < M64) (h : ¬ x + y < M64) (w : World) :
    (callFunc 86 #[.int .u64 x, .int .u64 y, .int .u64 0]).run Tryd.prog w = .ok (.value (.tuple #[.int .u64 (x + y - M64), .int .u64 1])) w := by
  rw [M64_eq] at *
  rw [add64 x y 0 hx hy (by omega) (by omega) w, show (x + y + 0) % 18446744073709551616 = x + y - (18446744073709551615 + 1) from by omega, show (x + y + 0) / 18446744073709551616 = 1 from by omega]

set_option maxHeartbeats 400000 in
theorem sum_any (a : Option Addr) (cap : Nat) (xs : List Int) (w : World) (h : Row .u64 w a xs) (hx : U64s xs) (hl : xs.length ≤ maxLen) :
    Calls Tryd.prog 74 #[.slice a xs.length cap] w fun e w' => e = .returned (.tuple #[.int .u64 (sumF xs).1, errV (over (sumF xs).2)]) ∧ w = w' := by
  unfold maxLen at hl
  have HX := Lib.hid hx; clear hx
  have HC := Lib.hid h; clear h
  go_enter Tryd.func74, Tryd.ntmps74
  go_wp2
  go_loop [4, 11] (fun s i => ∃ (k : Nat) (t : Int), k ≤ xs.length ∧ i = .int .i64 k ∧ s = .int .u64 t ∧ Hid (t = (xs.take k).sum) ∧ 0 ≤ t ∧ t ≤ 18446744073709551615) (fun _ i => xs.length - (intOf i).toNat)
  case atStart => exact ⟨0, 0, Nat.zero_le _, rfl, rfl, Lib.hid (by simp), by omega, by omega⟩
  case round =>
    obtain ⟨k, t, hk, rfl, rfl, ht, ht0, ht1⟩ := hrel
    by_cases hlt : k < xs.length
    · obtain ⟨b, off, rfl, hck⟩ := HC.out k hlt
      have hm := HX.out xs[k] (List.getElem_mem hlt)
      rw [M64_eq] at hm
      obtain ⟨h1, h2⟩ := hm
      have HS := Lib.hid (take_succ_sum xs k hlt)
      by_cases h3 : t + xs[k] < M64
      · have ha := add64_fits t xs[k] ht0 h1 h3
        have H3 := Lib.hid h3; clear h3
        go_wp2
        go_round
        case rel => exact ⟨k + 1, t + xs[k], by omega, by go_num, by go_num, Lib.hid (by rw [HS.out, ht.out]), by omega, by have := H3.out; rw [M64_eq] at this; omega⟩
        case measure => simp [intOf]; omega
      · have ha := add64_over t xs[k] ht0 h1 (by rw [M64_eq]; omega) (by rw [M64_eq]; omega) h3
        have H3 := Lib.hid h3; clear h3
        go_wp2
        go_ret2
        have h4 : ¬ xs.sum < M64 := by
          have := sum_take_le xs (k + 1) HX.out
          have := HS.out
          have := ht.out
          have := H3.out
          omega
        rw [sumF_no h4]
        exact ⟨ret2 rfl rfl, rfl⟩
    · have hk' : k = xs.length := by omega
      have HK := Lib.hid hk'; clear hk'
      go_wp2
      go_ret2
      have e : t = xs.sum := by rw [ht.out, HK.out, List.take_length]
      have h3 : xs.sum < M64 := by rw [← e, M64_eq]; omega
      rw [sumF_yes h3]
      exact ⟨ret2 (vint e) rfl, rfl⟩
end Go.Proofs.YtmjfkcclhbpclaaDoor
