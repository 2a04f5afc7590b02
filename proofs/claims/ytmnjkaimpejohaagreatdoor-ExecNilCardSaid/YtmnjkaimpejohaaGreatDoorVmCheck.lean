/- Layer 2: what is amiss with pages, whatever is mapped. -/
import Derived.Test.YtmnjkaimpejohaaGreatDoorVm
namespace Go.Proofs.YtmnjkaimpejohaaGreatDoor
open Go.RowKit
set_option linter.unusedVariables false
set_option linter.unusedSimpArgs false

def checkF (a : Nat) (n perm : Int) : Nat := if n < 1 ∨ perm < 0 ∨ 7 < perm then 1 else if a % 4096 ≠ 0 then 9 else if a < 4096 ∨ belowF a n.toNat = false then 4 else 0

theorem check_any (a : Nat) (n perm : Int) (w : World) (ha : a < 18446744073709551616) (hn1 : -9223372036854775808 ≤ n) (hn2 : n < 9223372036854775808) : Calls Tryz.prog 18 #[.int .u64 (a : Int), .int .i64 n, .int .i64 perm] w fun e w' => e = .returned (errV (checkF a n perm : Int)) ∧ w = w' := by
  obtain ⟨C, hC⟩ : ∃ C, checkF a n perm = C := ⟨_, rfl⟩
  rw [hC]
  by_cases h1 : n < 1
  · obtain rfl : C = 1 := by rw [← hC]; unfold checkF; rw [if_pos (by omega)]
    clear hC hn1 hn2
    go_enter Tryz.func18, Tryz.ntmps18
    go_wp2_with fail
    go_ret
    exact ⟨rfl, rfl⟩
  · by_cases h2 : perm < 0
    · obtain rfl : C = 1 := by rw [← hC]; unfold checkF; rw [if_pos (by omega)]
      clear hC hn1 hn2
      go_enter Tryz.func18, Tryz.ntmps18
      go_wp2_with fail
      go_ret
      exact ⟨rfl, rfl⟩
    · by_cases h3 : 7 < perm
      · obtain rfl : C = 1 := by rw [← hC]; unfold checkF; rw [if_pos (by omega)]
        clear hC hn1 hn2
        go_enter Tryz.func18, Tryz.ntmps18
        go_wp2_with fail
        go_ret
        exact ⟨rfl, rfl⟩
      · obtain ⟨m, rfl⟩ : ∃ m : Nat, n = (m : Int) := ⟨n.toNat, by omega⟩
        have hm : m < 18446744073709551616 := by omega
        have e1 : (a : Int).tmod 4096 = ((a % 4096 : Nat) : Int) := by rw [Int.tmod_eq_emod_of_nonneg (by omega)]; omega
        have e2 : IntKind.u64.wrap (m : Int) = (m : Int) := by rw [IntKind.wrap_u64]; omega
        have e3 : IntKind.u64.wrap ((a % 4096 : Nat) : Int) = ((a % 4096 : Nat) : Int) := by rw [IntKind.wrap_u64]; omega
        have HB := Lib.hid (fun (wx : World) => below_any a m wx ha hm)
        by_cases h4 : a % 4096 = 0
        · rw [h4] at e1 e3
          by_cases h5 : a < 4096
          · obtain rfl : C = 4 := by rw [← hC]; unfold checkF; rw [if_neg (by omega), if_neg (fun hx => hx h4), if_pos (.inl h5)]
            have h5i : (a : Int) < 4096 := by omega
            clear hC hn1 hn2 ha h4 e3
            go_enter Tryz.func18, Tryz.ntmps18
            go_wp2_with fail
            go_ret
            exact ⟨rfl, rfl⟩
          · obtain ⟨B, hB⟩ : ∃ B, belowF a m = B := ⟨_, rfl⟩
            have hC2 : (if B = false then 4 else 0) = C := by
              rw [← hC]; symm; unfold checkF; rw [if_neg (by omega), if_neg (fun hx => hx h4), Int.toNat_natCast, hB]
              simp [h5]
            rw [hB] at HB
            have h5i : ¬ (a : Int) < 4096 := by omega
            clear hC hn1 hn2 ha h4 hB e3
            cases B with
            | true =>
              obtain rfl : C = 0 := by rw [← hC2]; rfl
              clear hC2
              go_enter Tryz.func18, Tryz.ntmps18
              go_wp2_with (go_at_call 31; refine (HB.out _).mono ?_; rintro e w' ⟨rfl, rfl⟩)
              go_ret
              exact ⟨rfl, rfl⟩
            | false =>
              obtain rfl : C = 4 := by rw [← hC2]; rfl
              clear hC2
              go_enter Tryz.func18, Tryz.ntmps18
              go_wp2_with (go_at_call 31; refine (HB.out _).mono ?_; rintro e w' ⟨rfl, rfl⟩)
              go_ret
              exact ⟨rfl, rfl⟩
        · obtain rfl : C = 9 := by rw [← hC]; unfold checkF; rw [if_neg (by omega), if_pos h4]
          have h4i : ¬ ((a % 4096 : Nat) : Int) = 0 := by omega
          generalize a % 4096 = r at *
          clear hC hn1 hn2 ha
          go_enter Tryz.func18, Tryz.ntmps18
          go_wp2_with fail
          go_ret
          exact ⟨rfl, rfl⟩
end Go.Proofs.YtmnjkaimpejohaaGreatDoor
