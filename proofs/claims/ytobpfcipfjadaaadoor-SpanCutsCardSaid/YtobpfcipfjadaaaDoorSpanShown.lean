/- Layer 1: the document's examples hold (the head of every statement of the layer). -/
import Derived.Test.YtobpfcipfjadaaaDoorSpanUp
import Derived.Test.YtobpfcipfjadaaaDoorSpanText
namespace Go.Proofs.YtobpfcipfjadaaaDoor
open Go.RowKit
set_option linter.unusedVariables false
set_option linter.unusedSimpArgs false

theorem sum_lit1 (w : World) : Calls Tryd.prog 19 #[.slice (some ⟨w.heap.size, 0, none⟩) 3 3] (w.alloc (.cells #[.int .u64 1, .int .u64 2, .int .u64 3] 23)) fun e w' => e = .returned (.tuple #[.int .u64 6, .nilIface]) ∧ w.alloc (.cells #[.int .u64 1, .int .u64 2, .int .u64 3] 23) = w' :=
  sum_any (some ⟨w.heap.size, 0, none⟩) 3 [1, 2, 3] _ (Row.new .u64 w [1, 2, 3] _) (by intro x hx; simp only [List.mem_cons, List.not_mem_nil, or_false] at hx; rw [M64_eq]; omega) (by unfold maxLen; simp)
theorem sum_lit2 (w : World) : Calls Tryd.prog 19 #[.slice (some ⟨w.heap.size, 0, none⟩) 2 2] (w.alloc (.cells #[.int .u64 18446744073709551615, .int .u64 1] 23)) fun e w' => e = .returned (.tuple #[.int .u64 0, .iface 34 (.int .i64 28)]) ∧ w.alloc (.cells #[.int .u64 18446744073709551615, .int .u64 1] 23) = w' :=
  sum_any (some ⟨w.heap.size, 0, none⟩) 2 [18446744073709551615, 1] _ (Row.new .u64 w [18446744073709551615, 1] _) (by intro x hx; simp only [List.mem_cons, List.not_mem_nil, or_false] at hx; rw [M64_eq]; omega) (by unfold maxLen; simp)
theorem up_lit (w : World) : Calls Tryd.prog 20 #[.int .u64 4097, .int .u64 4096] w fun e w' => e = .returned (.tuple #[.int .u64 8192, .nilIface]) ∧ Below w.heap.size w w' :=
  up_any 4097 4096 w (by omega) (by omega)
theorem get_lit (w : World) : Calls Tryd.prog 12 #[.slice (some ⟨w.heap.size, 0, none⟩) 3 3, .int .u64 1, .int .i64 2] (w.alloc (.cells #[.int .u8 1, .int .u8 2, .int .u8 3] 5)) fun e w' => e = .returned (.tuple #[.int .u64 770, .nilIface]) ∧ Below (w.heap.size + 1) (w.alloc (.cells #[.int .u8 1, .int .u8 2, .int .u8 3] 5)) w' := by
  have := get_yes (some ⟨w.heap.size, 0, none⟩) 3 [1, 2, 3] 1 2 _ (Row.new .u8 w [1, 2, 3] 5) (by intro x hx; simp only [List.mem_cons, List.not_mem_nil, or_false] at hx; omega) (by simp) (by intro h; cases h) (by simp) rfl (by simp) (by simp)
  simp only [World.size_alloc] at this
  exact this
theorem text_lit (w : World) : Calls Tryd.prog 17 #[.slice (some ⟨w.heap.size, 0, none⟩) 3 3, .int .u64 1] (w.alloc (.cells #[.int .u8 97, .int .u8 98, .int .u8 0] 5)) fun e w' => e = .returned (.tuple #[.string ⟨#[98]⟩, .nilIface]) ∧ Below (w.heap.size + 1) (w.alloc (.cells #[.int .u8 97, .int .u8 98, .int .u8 0] 5)) w' := by
  have := text_any (some ⟨w.heap.size, 0, none⟩) 3 [97, 98, 0] 1 _ (Row.new .u8 w [97, 98, 0] 5) (by intro x hx; simp only [List.mem_cons, List.not_mem_nil, or_false] at hx; omega) (by simp) (by simp) (by omega) w.heap.size 0 rfl (by simp) 1 (by decide) (by simp)
  simp only [World.size_alloc] at this
  exact this

set_option maxHeartbeats 1000000 in
theorem shown_true (w : World) :
    Calls Tryd.prog 6 #[] w fun e w' => e = .returned (.bool true) ∧ Below w.heap.size w w' := by
  have he := run_eql_code
  go_enter Tryd.func6, Tryd.ntmps6
  go_wp2_with fail
  refine (sum_lit1 _).mono ?_
  rintro e w1 ⟨rfl, hw1⟩
  have hb1 : Below w.heap.size w w1 := by rw [← hw1]; exact (Below.refl _ _).alloc (Nat.le_refl _) _
  clear hw1
  go_wp2_with fail
  refine (sum_lit2 _).mono ?_
  rintro e w2 ⟨rfl, hw2⟩
  have hb2 : Below w.heap.size w w2 := by rw [← hw2]; exact hb1.alloc hb1.size _
  clear hw2
  go_wp2_with fail
  refine (up_lit _).mono ?_
  rintro e w3 ⟨rfl, hw3⟩
  have hb3 : Below w.heap.size w w3 := hb2.trans (hw3.mono hb2.size)
  clear hw3
  go_wp2_with fail
  refine (get_lit _).mono ?_
  rintro e w4 ⟨rfl, hw4⟩
  have hb4 : Below w.heap.size w w4 := (hb3.alloc hb3.size _).trans (hw4.mono (Nat.le_succ_of_le hb3.size))
  clear hw4
  go_wp2_with fail
  refine (text_lit _).mono ?_
  rintro e w5 ⟨rfl, hw5⟩
  have hb5 : Below w.heap.size w w5 := (hb4.alloc hb4.size _).trans (hw5.mono (Nat.le_succ_of_le hb4.size))
  clear hw5 hb1 hb2 hb3 hb4
  go_wp2_with fail
  go_ret
  exact ⟨rfl, hb5⟩
end Go.Proofs.YtobpfcipfjadaaaDoor
