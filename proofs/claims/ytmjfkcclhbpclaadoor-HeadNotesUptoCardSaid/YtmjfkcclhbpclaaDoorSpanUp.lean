/- Layer 1: how many bits are set (math/bits.OnesCount64); a number brought up to a multiple of a power of two. -/
import Derived.Test.YtmjfkcclhbpclaaDoorSpanNum
import Derived.Test.YtmjfkcclhbpclaaDoorPop



namespace Go.Proofs.YtmjfkcclhbpclaaDoor
open Go.RowKit
set_option linter.unusedVariables false
set_option linter.unusedSimpArgs false

theorem and64 (a b : Nat) (ha : a < 18446744073709551616) (hb : b < 18446744073709551616) {c d : Int} (hc : c = (a : Int)) (hd : d = (b : Int)) : bits .and .u64 c d = ((a &&& b : Nat) : Int) := by
  rw [hc, hd]; exact u64_and_nat a b ha hb

theorem ones_core (x a1 a2 b1 b2 c : Nat) (w : World) (hx : x < 18446744073709551616)
    (e1 : bits .and .u64 ((x : Int) / 2) 6148914691236517205 = (a1 : Int)) (e2 : bits .and .u64 (x : Int) 6148914691236517205 = (a2 : Int)) (ha : (a1 : Int) + (a2 : Int) ≤ 18446744073709551615)
    (e3 : bits .and .u64 (((a1 : Int) + (a2 : Int)) / 4) 3689348814741910323 = (b1 : Int)) (e4 : bits .and .u64 ((a1 : Int) + (a2 : Int)) 3689348814741910323 = (b2 : Int)) (hb : ((b1 : Int) + (b2 : Int)) / 16 + ((b1 : Int) + (b2 : Int)) ≤ 18446744073709551615)
    (e5 : bits .and .u64 (((b1 : Int) + (b2 : Int)) / 16 + ((b1 : Int) + (b2 : Int))) 1085102592571150095 = (c : Int))
    (hc : (c : Int) ≤ 1000000000000000000) (hd : (c : Int) + (c : Int) / 256 ≤ 1000000000000000000) (he : (c : Int) + (c : Int) / 256 + ((c : Int) + (c : Int) / 256) / 65536 ≤ 1000000000000000000)
    (hf : (c : Int) + (c : Int) / 256 + ((c : Int) + (c : Int) / 256) / 65536 + ((c : Int) + (c : Int) / 256 + ((c : Int) + (c : Int) / 256) / 65536) / 4294967296 ≤ 1000000000000000000) :
    Calls Tryd.prog 76 #[.int .u64 x] w fun e w' => e = .returned (.int .i64 (bits .and .i64 ((c : Int) + (c : Int) / 256 + ((c : Int) + (c : Int) / 256) / 65536 + ((c : Int) + (c : Int) / 256 + ((c : Int) + (c : Int) / 256) / 65536) / 4294967296) 127)) ∧ w = w' := by
  go_enter Tryd.func76, Tryd.ntmps76
  go_wp2
  go_ret
  exact ⟨rfl, rfl⟩

set_option maxHeartbeats 1000000 in
theorem ones (x : Nat) (w : World) (hx : x < 18446744073709551616) :
    Calls Tryd.prog 76 #[.int .u64 x] w fun e w' => e = .returned (.int .i64 (Pop.pop x)) ∧ w = w' := by
  obtain ⟨q1, q2, q3, q4, q5, q6, q7⟩ := Pop.bounds x hx
  have r2 : Pop.w2 (Pop.w1 x) ≤ Pop.w2 (Pop.w1 x) / 16 + Pop.w2 (Pop.w1 x) := by omega
  refine (ones_core x (x / 2 &&& 6148914691236517205) (x &&& 6148914691236517205) (Pop.w1 x / 4 &&& 3689348814741910323) (Pop.w1 x &&& 3689348814741910323) (Pop.w3 (Pop.w2 (Pop.w1 x))) w hx
    (and64 _ _ (by omega) (by omega) (by omega) rfl) (and64 _ _ hx (by omega) rfl rfl) ?_ ?_ ?_ ?_ ?_ ?_ ?_ ?_ ?_).mono ?_
  · have : Pop.w1 x = (x / 2 &&& 6148914691236517205) + (x &&& 6148914691236517205) := rfl
    omega
  · exact and64 _ _ (by omega) (by omega) (by have : Pop.w1 x = (x / 2 &&& 6148914691236517205) + (x &&& 6148914691236517205) := rfl; omega) rfl
  · exact and64 _ _ q1 (by omega) (by have : Pop.w1 x = (x / 2 &&& 6148914691236517205) + (x &&& 6148914691236517205) := rfl; omega) rfl
  · have : Pop.w2 (Pop.w1 x) = (Pop.w1 x / 4 &&& 3689348814741910323) + (Pop.w1 x &&& 3689348814741910323) := rfl
    omega
  · exact and64 _ _ q3 (by omega) (by have : Pop.w2 (Pop.w1 x) = (Pop.w1 x / 4 &&& 3689348814741910323) + (Pop.w1 x &&& 3689348814741910323) := rfl; omega) rfl
  · omega
  · have : Pop.w4 (Pop.w3 (Pop.w2 (Pop.w1 x))) = Pop.w3 (Pop.w2 (Pop.w1 x)) + Pop.w3 (Pop.w2 (Pop.w1 x)) / 256 := rfl
    omega
  · have h4 : Pop.w4 (Pop.w3 (Pop.w2 (Pop.w1 x))) = Pop.w3 (Pop.w2 (Pop.w1 x)) + Pop.w3 (Pop.w2 (Pop.w1 x)) / 256 := rfl
    have h5 : Pop.w5 (Pop.w4 (Pop.w3 (Pop.w2 (Pop.w1 x)))) = Pop.w4 (Pop.w3 (Pop.w2 (Pop.w1 x))) + Pop.w4 (Pop.w3 (Pop.w2 (Pop.w1 x))) / 65536 := rfl
    omega
  · have h4 : Pop.w4 (Pop.w3 (Pop.w2 (Pop.w1 x))) = Pop.w3 (Pop.w2 (Pop.w1 x)) + Pop.w3 (Pop.w2 (Pop.w1 x)) / 256 := rfl
    have h5 : Pop.w5 (Pop.w4 (Pop.w3 (Pop.w2 (Pop.w1 x)))) = Pop.w4 (Pop.w3 (Pop.w2 (Pop.w1 x))) + Pop.w4 (Pop.w3 (Pop.w2 (Pop.w1 x))) / 65536 := rfl
    have h6 : Pop.w6 (Pop.w5 (Pop.w4 (Pop.w3 (Pop.w2 (Pop.w1 x))))) = Pop.w5 (Pop.w4 (Pop.w3 (Pop.w2 (Pop.w1 x)))) + Pop.w5 (Pop.w4 (Pop.w3 (Pop.w2 (Pop.w1 x)))) / 4294967296 := rfl
    omega
  · rintro e w' ⟨rfl, rfl⟩
    refine ⟨ret1 (vint ?_), rfl⟩
    rw [i64_and127]
    have h4 : Pop.w4 (Pop.w3 (Pop.w2 (Pop.w1 x))) = Pop.w3 (Pop.w2 (Pop.w1 x)) + Pop.w3 (Pop.w2 (Pop.w1 x)) / 256 := rfl
    have h5 : Pop.w5 (Pop.w4 (Pop.w3 (Pop.w2 (Pop.w1 x)))) = Pop.w4 (Pop.w3 (Pop.w2 (Pop.w1 x))) + Pop.w4 (Pop.w3 (Pop.w2 (Pop.w1 x))) / 65536 := rfl
    have h6 : Pop.w6 (Pop.w5 (Pop.w4 (Pop.w3 (Pop.w2 (Pop.w1 x))))) = Pop.w5 (Pop.w4 (Pop.w3 (Pop.w2 (Pop.w1 x)))) + Pop.w5 (Pop.w4 (Pop.w3 (Pop.w2 (Pop.w1 x)))) / 4294967296 := rfl
    unfold Pop.pop
    rw [h6, h5, h4]
    omega

def timesF (a b : Int) : Int × Bool := if a * b < M64 then (a * b, true) else (0, false)
theorem timesF_yes {a b : Int} (h : a * b < M64) : timesF a b = (a * b, true) := if_pos h
theorem timesF_no {a b : Int} (h : ¬ a * b < M64) : timesF a b = (0, false) := if_neg h

















































































/-- a number brought up, and the error's number -/
def upF (a to : Nat) : Int × Int :=
  if Pop.pop to ≠ 1 then (0, 1) else if a + (to - 1) < 18446744073709551616 then ((((a + (to - 1)) / to * to : Nat) : Int), 0) else (0, 28)

theorem pow_of {to : Nat} (h : to < 18446744073709551616) (hp : Pop.pop to = 1) : ∃ i, i < 64 ∧ to = 2 ^ i := Pop.pop_one to h hp

theorem andNot_pow (x i : Nat) (hx : x < 18446744073709551616) (hi : i < 64) : x &&& (18446744073709551615 - (2 ^ i - 1)) = x / 2 ^ i * 2 ^ i := by
  have h64 : (18446744073709551616 : Nat) = 2 ^ 64 := rfl
  have e : 18446744073709551615 - (2 ^ i - 1) = 2 ^ i * (2 ^ (64 - i) - 1) := by
    have : 2 ^ i * 2 ^ (64 - i) = 18446744073709551616 := by rw [← Nat.pow_add, show i + (64 - i) = 64 from by omega]
    have h1 : 1 ≤ 2 ^ i := Nat.one_le_two_pow
    rw [Nat.mul_sub, this]; omega
  rw [e]
  apply Nat.eq_of_testBit_eq
  intro j
  rw [Nat.testBit_and, Nat.mul_comm (x / 2 ^ i), Nat.testBit_two_pow_mul, Nat.testBit_two_pow_mul, Nat.testBit_two_pow_sub_one, Nat.testBit_div_two_pow]
  by_cases hj : i ≤ j
  · by_cases hk : j - i < 64 - i
    · simp [hj, hk, show j - i + i = j from by omega]
    · have : x.testBit j = false := Nat.testBit_lt_two_pow (Nat.lt_of_lt_of_le (by rw [← h64]; exact hx) (Nat.pow_le_pow_right (by omega) (by omega)))
      simp [hj, hk, this, show j - i + i = j from by omega]
  · simp [hj]

theorem up_bits (a to i : Nat) (hs : a + (to - 1) < 18446744073709551616) (h1 : 1 ≤ to) (hi : i < 64) (hi2 : to = 2 ^ i) :
    bits .andNot .u64 ((a : Int) + ((to : Int) - 1)) ((to : Int) - 1) = (((a + (to - 1)) / to * to : Nat) : Int) := by
  have c1 : (a : Int) + ((to : Int) - 1) = ((a + (to - 1) : Nat) : Int) := by omega
  have c2 : (to : Int) - 1 = ((to - 1 : Nat) : Int) := by omega
  have h2 : to - 1 < 18446744073709551616 := by omega
  rw [c1, c2]
  have h := u64_andNot_nat (a + (to - 1)) (to - 1) hs h2
  rw [h]
  generalize a + (to - 1) = s at *
  clear c1 c2 h h2 h1
  subst hi2
  rw [andNot_pow s i hs hi]

theorem two_rows (x y : Int) (hx : 0 ≤ x ∧ x < M64) (hy : 0 ≤ y ∧ y < M64) : U64s [x, y] := by
  intro z hz
  simp only [List.mem_cons, List.not_mem_nil, or_false] at hz
  rcases hz with rfl | rfl
  · exact hx
  · exact hy

theorem sum_two (x y : Int) : [x, y].sum = x + y := by simp

set_option maxHeartbeats 400000 in
theorem up_any (a to : Nat) (w : World) (ha : a < 18446744073709551616) (hto : to < 18446744073709551616) :
    Calls Tryd.prog 87 #[.int .u64 a, .int .u64 to] w fun e w' => e = .returned (.tuple #[.int .u64 (upF a to).1, errV (upF a to).2]) ∧ Below w.heap.size w w' := by
  have hone := Lib.hid (ones to w hto)
  by_cases hp : Pop.pop to = 1
  · obtain ⟨i, hi, hi2⟩ := pow_of hto hp
    have h1 : 1 ≤ to := by rw [hi2]; exact Nat.one_le_two_pow
    rw [hp] at hone
    have hsum := Lib.hid (fun (w1 : World) (h : Row .u64 w1 (some ⟨w.heap.size, 0, none⟩) [(a : Int), (to : Int) - 1]) =>
      sum_any (some ⟨w.heap.size, 0, none⟩) 2 [(a : Int), (to : Int) - 1] w1 h (two_rows _ _ (by rw [M64_eq]; omega) (by rw [M64_eq]; omega)) (by unfold maxLen; simp))
    by_cases hs : a + (to - 1) < 18446744073709551616
    · have e1 : upF a to = ((((a + (to - 1)) / to * to : Nat) : Int), 0) := by unfold upF; rw [if_neg (by omega), if_pos hs]
      have e2 : sumF [(a : Int), (to : Int) - 1] = ((a : Int) + ((to : Int) - 1), true) := by
        have hq := sum_two (a : Int) ((to : Int) - 1)
        rw [sumF_yes (by rw [hq, M64_eq]; omega), hq]
      have e3 := up_bits a to i hs h1 hi hi2
      rw [e1]
      rw [e2] at hsum
      clear hp e1 e2 hs hi2
      have he : errV (over true) = .nilIface := rfl
      have E3 := Lib.hid e3; clear e3
      go_enter Tryd.func87, Tryd.ntmps87
      go_wp2_with (first
        | (go_at_call 76; refine (Hid.out hone).mono ?_; rintro e w' ⟨rfl, rfl⟩)
        | (go_at_call 74; refine (Hid.out hsum _ ?_).mono ?_; rotate_left; rintro e w' ⟨rfl, rfl⟩))
      · go_ret2
        exact ⟨ret2 (vint E3.out) rfl, by go_grown⟩
      · exact Row.new _ _ [_, _] _
    · have e1 : upF a to = (0, 28) := by unfold upF; rw [if_neg (by omega), if_neg hs]
      have e2 : sumF [(a : Int), (to : Int) - 1] = (0, false) := by
        have hq := sum_two (a : Int) ((to : Int) - 1)
        rw [sumF_no (by rw [hq, M64_eq]; omega)]
      rw [e1]
      rw [e2] at hsum
      clear hp e1 e2 hs hi2
      have he : errV (over false) = .iface 38 (.int .i64 28) := rfl
      go_enter Tryd.func87, Tryd.ntmps87
      go_wp2_with (first
        | (go_at_call 76; refine (Hid.out hone).mono ?_; rintro e w' ⟨rfl, rfl⟩)
        | (go_at_call 74; refine (Hid.out hsum _ ?_).mono ?_; rotate_left; rintro e w' ⟨rfl, rfl⟩))
      · go_ret2
        exact ⟨ret2 rfl rfl, by go_grown⟩
      · exact Row.new _ _ [_, _] _
  · have e1 : upF a to = (0, 1) := by unfold upF; rw [if_pos hp]
    rw [e1]
    have hp' : ((Pop.pop to : Nat) : Int) ≠ 1 := by omega
    have h2 : (((Pop.pop to : Nat) : Int) == 1) = false := by rw [beq_eq_false_iff_ne]; exact hp'
    generalize ((Pop.pop to : Nat) : Int) = q at *
    clear hp hp' e1
    go_enter Tryd.func87, Tryd.ntmps87
    go_wp2_with (go_at_call 76; refine (Hid.out hone).mono ?_; rintro e w' ⟨rfl, rfl⟩)
    go_ret2
    exact ⟨ret2 rfl rfl, by go_grown⟩






































































































































end Go.Proofs.YtmjfkcclhbpclaaDoor
