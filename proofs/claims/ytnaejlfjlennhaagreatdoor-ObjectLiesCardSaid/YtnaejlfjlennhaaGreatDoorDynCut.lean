/- Layer 5: pieces of bytes; does a piece lie within? -/
import Derived.Test.YtnaejlfjlennhaaGreatDoorDynNum
import Derived.Test.YtnaejlfjlennhaaGreatDoorLittle
namespace Go.Proofs.YtnaejlfjlennhaaGreatDoor
open Go.RowKit
set_option linter.unusedVariables false
set_option linter.unusedSimpArgs false

theorem cut_toID (bs : List Nat) (o n : Nat) : cutOf (toI bs) o n = toI ((bs.drop o).take n) := by simp [cutOf, toI, List.map_drop, List.map_take]
theorem BRow.cut {w : World} {a : Option Addr} {bs : List Nat} (h : BRow w a bs) (o n : Nat) : BRow w (a.map (·.add o)) ((bs.drop o).take n) :=
  ⟨by rw [← cut_toID]; exact h.1.cut o n, fun b hb => h.2 b (List.mem_of_mem_drop (List.mem_of_mem_take hb))⟩

theorem within_any (a : Option Addr) (len cap off n : Nat) (w : World) (hl : len ≤ 140737488355328) (ho : off < 18446744073709551616) (hn : n < 18446744073709551616) :
    Calls Tryz.prog 24 #[.slice a len cap, .int .u64 off, .int .u64 n] w fun e w' => e = .returned (.bool (decide (off ≤ len ∧ n ≤ len - off))) ∧ w = w' := by
  by_cases h1 : off ≤ len
  · have e : decide ((n : Int) ≤ (len : Int) - (off : Int)) = decide (off ≤ len ∧ n ≤ len - off) := by
      rw [Bool.eq_iff_iff, decide_eq_true_eq, decide_eq_true_eq]
      omega
    have HE := Lib.hid e
    clear e
    go_enter Tryz.func24, Tryz.ntmps24
    go_wp2
    go_ret
    exact ⟨ret1 (by rw [← HE.out]; rfl), rfl⟩
  · have e : decide (off ≤ len ∧ n ≤ len - off) = false := by simp [h1]
    rw [e]
    go_enter Tryz.func24, Tryz.ntmps24
    go_wp2
    go_ret
    exact ⟨rfl, rfl⟩
end Go.Proofs.YtnaejlfjlennhaaGreatDoor
