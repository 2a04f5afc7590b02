/- Layer 9: addresses packed and unpacked, as lists. Nothing of the program is named. -/
import Derived.Test.YtbmfjchpfhealaaKit
import Derived.Laws.BitsAllLaws
namespace Go.Proofs.Ytbmfjchpfhealaa
open Go.RowKit
set_option linter.unusedVariables false
set_option linter.unusedSimpArgs false

/-- the addresses of the first k bits of an odd number -/
def bitsK (v nx k : Nat) : List Nat := (List.range k).filterMap fun i => if v.testBit (i + 1) then some ((nx + 8 * i) % 18446744073709551616) else none
theorem bitsK_zero (v nx : Nat) : bitsK v nx 0 = [] := rfl
theorem bitsK_succ (v nx k : Nat) : bitsK v nx (k + 1) = bitsK v nx k ++ (if v.testBit (k + 1) then [(nx + 8 * k) % 18446744073709551616] else []) := by
  unfold bitsK
  rw [List.range_succ, List.filterMap_append]
  congr 1
  by_cases h : v.testBit (k + 1) <;> simp [h]
theorem bitsK_yes {v nx k : Nat} (h : v.testBit (k + 1) = true) : bitsK v nx (k + 1) = bitsK v nx k ++ [(nx + 8 * k) % 18446744073709551616] := by rw [bitsK_succ, if_pos h]
theorem bitsK_no {v nx k : Nat} (h : v.testBit (k + 1) = false) : bitsK v nx (k + 1) = bitsK v nx k := by rw [bitsK_succ, if_neg (by simp [h]), List.append_nil]
theorem bitsK_length (v nx k : Nat) : (bitsK v nx k).length ≤ k := by
  induction k with
  | zero => simp [bitsK]
  | succ k ih => rw [bitsK_succ, List.length_append]; split <;> simp <;> omega
theorem bitsK_lt (v nx k : Nat) : ∀ y ∈ bitsK v nx k, y < 18446744073709551616 := by
  intro y hy
  obtain ⟨i, -, hi⟩ := List.mem_filterMap.1 hy
  split at hi
  · cases hi; exact Nat.mod_lt _ (by decide)
  · cases hi

def unStep (s : List Nat × Nat) (v : Nat) : List Nat × Nat :=
  if v % 2 = 0 then (s.1 ++ [v], (v + 8) % 18446744073709551616) else (s.1 ++ bitsK v s.2 63, (s.2 + 504) % 18446744073709551616)
def unRun (ys : List Nat) : List Nat × Nat := ys.foldl unStep ([], 0)
theorem unRun_snoc (ys : List Nat) (v : Nat) : unRun (ys ++ [v]) = unStep (unRun ys) v := by simp [unRun]
theorem unRun_take {ys : List Nat} {k : Nat} (h : k < ys.length) : unRun (ys.take (k + 1)) = unStep (unRun (ys.take k)) (ys.getD k 0) := by
  rw [List.take_succ_eq_append_getElem h, unRun_snoc, getD_getElem h]
theorem unStep_len (s : List Nat × Nat) (v : Nat) : s.1.length ≤ (unStep s v).1.length := by unfold unStep; split <;> simp
theorem unFold_len (s : List Nat × Nat) (ys : List Nat) : s.1.length ≤ (ys.foldl unStep s).1.length := by
  induction ys generalizing s with
  | nil => simp
  | cons y ys ih => exact Nat.le_trans (unStep_len s y) (ih _)
theorem unRun_len (ys : List Nat) (k : Nat) : (unRun (ys.take k)).1.length ≤ (unRun ys).1.length := by
  have : unRun ys = (ys.drop k).foldl unStep (unRun (ys.take k)) := by
    unfold unRun
    rw [← List.foldl_append, List.take_append_drop]
  rw [this]
  exact unFold_len _ _
theorem unRun_even {ys : List Nat} {k : Nat} (h : k < ys.length) (h2 : ys.getD k 0 % 2 = 0) : unRun (ys.take (k + 1)) = ((unRun (ys.take k)).1 ++ [ys.getD k 0], (ys.getD k 0 + 8) % 18446744073709551616) := by
  rw [unRun_take h, unStep, if_pos h2]
theorem unRun_odd {ys : List Nat} {k : Nat} (h : k < ys.length) (h2 : ¬ ys.getD k 0 % 2 = 0) : unRun (ys.take (k + 1)) = ((unRun (ys.take k)).1 ++ bitsK (ys.getD k 0) (unRun (ys.take k)).2 63, ((unRun (ys.take k)).2 + 504) % 18446744073709551616) := by
  rw [unRun_take h, unStep, if_neg h2]
theorem unRun_next_lt (ys : List Nat) : (unRun ys).2 < 18446744073709551616 := by
  rcases List.eq_nil_or_concat ys with rfl | ⟨xs, v, rfl⟩
  · decide
  · rw [List.concat_eq_append, unRun_snoc, unStep]
    split <;> exact Nat.mod_lt _ (by decide)

/-- what Unpack answers: the error's number, and the addresses -/
def unF (ys : List Nat) : Nat × List Nat :=
  if ys.headD 0 % 2 = 1 then (3, []) else if 16384 < (unRun ys).1.length then (2, []) else (0, (unRun ys).1)

theorem unF_odd {ys : List Nat} (h : ys.headD 0 % 2 = 1) : unF ys = (3, []) := by rw [unF, if_pos h]
theorem unF_long {ys : List Nat} (h : ¬ ys.headD 0 % 2 = 1) {k : Nat} (h2 : 16384 < (unRun (ys.take k)).1.length) : unF ys = (2, []) := by
  have := unRun_len ys k
  rw [unF, if_neg h, if_pos (by omega)]
theorem unF_yes {ys : List Nat} (h : ¬ ys.headD 0 % 2 = 1) (h2 : (unRun ys).1.length ≤ 16384) : unF ys = (0, (unRun ys).1) := by
  rw [unF, if_neg h, if_neg (by omega)]

theorem bit_one (v : Nat) : v % 2 = 1 ↔ v.testBit 0 = true := by simp [Nat.testBit_zero]
theorem bit_of (v i : Nat) : v.testBit i = decide (v / 2 ^ i % 2 = 1) := Nat.testBit_eq_decide_div_mod_eq

theorem and_two_pow (v j : Nat) : v &&& 2 ^ j = if v.testBit j then 2 ^ j else 0 := by
  apply Nat.eq_of_testBit_eq
  intro i
  rw [Nat.testBit_and, Nat.testBit_two_pow]
  by_cases h : j = i
  · subst h
    cases hv : v.testBit j <;> simp
  · cases hv : v.testBit j <;> simp [h, Nat.testBit_two_pow]

/-- v & 2^j -/
theorem and_pow (v j : Nat) (hv : v < 18446744073709551616) (hj : j < 64) : bits .and .u64 (v : Int) ((2 ^ j : Nat) : Int) = if v.testBit j then ((2 ^ j : Nat) : Int) else 0 := by
  have hp : 2 ^ j < 18446744073709551616 := by
    rw [show (18446744073709551616 : Nat) = 2 ^ 64 from rfl]
    exact Nat.pow_lt_pow_right (by omega) hj
  rw [u64_and_nat v (2 ^ j) hv hp, and_two_pow]
  cases v.testBit j <;> simp

theorem shl_wrap (j : Nat) (hj : j < 63) : IntKind.u64.wrap ((2 : Int) * 2 ^ j) = ((2 ^ (j + 1) : Nat) : Int) := by
  have hp : 2 ^ (j + 1) < 18446744073709551616 := by
    rw [show (18446744073709551616 : Nat) = 2 ^ 64 from rfl]
    exact Nat.pow_lt_pow_right (by omega) (by omega)
  have e : (2 : Int) * 2 ^ j = ((2 ^ (j + 1) : Nat) : Int) := by
    rw [Nat.pow_succ, Int.natCast_mul, Int.natCast_pow, Int.mul_comm]
    rfl
  rw [e, IntKind.wrap_u64]
  generalize 2 ^ (j + 1) = p at *
  omega
theorem test_bit (v j : Nat) (hv : v < 18446744073709551616) (hj : j < 63) : (bits .and .u64 (v : Int) (IntKind.u64.wrap ((2 : Int) * 2 ^ j)) != 0) = v.testBit (j + 1) := by
  rw [shl_wrap j hj, and_pow v (j + 1) hv (by omega)]
  cases v.testBit (j + 1)
  · rfl
  · rw [if_pos rfl, bne_iff_ne]
    have : 0 < 2 ^ (j + 1) := Nat.two_pow_pos _
    generalize 2 ^ (j + 1) = p at *
    omega
theorem next_wrap (nx j : Nat) : IntKind.u64.wrap ((nx : Int) + 8 * (j : Int)) = (((nx + 8 * j) % 18446744073709551616 : Nat) : Int) := by
  rw [IntKind.wrap_u64]
  omega
theorem half_pow (v j : Nat) : v / 2 ^ j / 2 = v / 2 ^ (j + 1) := by rw [Nat.div_div_eq_div_mul, Nat.pow_succ]
theorem half_bit (v j : Nat) : v.testBit (j + 1) = decide (v / 2 ^ j / 2 % 2 = 1) := by rw [half_pow, bit_of]
end Go.Proofs.Ytbmfjchpfhealaa
