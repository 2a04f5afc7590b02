/- Layer 19: the examples at the head of the statements; how the statements read their structs. -/
import Derived.Test.YtodondhlicedoaaReloc
namespace Go.Proofs.Ytodondhlicedoaa
open Go.RowKit
set_option linter.unusedVariables false
set_option linter.unusedSimpArgs false

def in1 : Inp := ⟨0, 1, 0, -1, 0, 4096, 0, 0, 0, false, 0⟩
def in2 : Inp := ⟨16, 2, 0, 0, 8192, 4096, 0, 0, 0, false, 0⟩
def in3 : Inp := ⟨0, 18, 0, 0, 0, 0, 0, 0, 4, false, 16⟩
def in4 : Inp := ⟨0, 99, 0, 0, 0, 0, 0, 0, 0, false, 0⟩
theorem in1_val : in1.val = (4095, 8, 0) := by decide +kernel
theorem in2_val : in2.val = (4294963184, 4, 0) := by decide +kernel
theorem in3_val : in3.val = (18446744073709551604, 8, 0) := by decide +kernel
theorem in4_val : in4.val = (0, 0, 20) := by decide +kernel

theorem value_lit {i : Inp} {v n c : Int} (h : i.val = (v, n, c)) (w : World) : Calls Try.prog 6 #[i.relV, .int .u64 i.base, i.boundV] w fun e w' => e = .returned (.tuple #[.int .u64 v, .int .i64 n, errV c]) ∧ Below w.heap.size w w' := by
  refine (value_any i w).mono ?_
  rintro e w' ⟨he, hb⟩
  rw [h] at he
  exact ⟨he, hb⟩

theorem bstep' {a b c : World} (h : Below a.heap.size a b) (k : Below b.heap.size b c) : Below a.heap.size a c := h.trans (k.mono h.size)

set_option maxHeartbeats 2000000 in
theorem up_true (w : World) : Calls Try.prog 5 #[] w fun e w' => e = .returned (.bool true) ∧ Below w.heap.size w w' := by
  have he := run_eql_code
  have H1 := Lib.hid (value_lit in1_val)
  have H2 := Lib.hid (value_lit in2_val)
  have H3 := Lib.hid (value_lit in3_val)
  have H4 := Lib.hid (value_lit in4_val)
  go_enter Try.func5, Try.ntmps5
  go_wp2_with fail
  refine (H1.out w).mono ?_
  rintro e w1 ⟨rfl, hb1⟩
  simp only [errV]
  have B1 := Lib.hid hb1; clear hb1
  go_wp2_with fail
  refine (H2.out w1).mono ?_
  rintro e w2 ⟨rfl, hb2⟩
  simp only [errV]
  have B2 := Lib.hid (bstep' B1.out hb2); clear hb2
  go_wp2_with fail
  refine (H3.out w2).mono ?_
  rintro e w3 ⟨rfl, hb3⟩
  simp only [errV]
  have B3 := Lib.hid (bstep' B2.out hb3); clear hb3
  go_wp2_with fail
  refine (H4.out w3).mono ?_
  rintro e w4 ⟨rfl, hb4⟩
  simp only [errV]
  have B4 := Lib.hid (bstep' B3.out hb4); clear hb4
  go_wp2_with fail
  go_ret
  exact ⟨rfl, B4.out⟩
end Go.Proofs.Ytodondhlicedoaa
