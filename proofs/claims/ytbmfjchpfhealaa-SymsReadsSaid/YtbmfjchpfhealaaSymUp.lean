/- Layer 6: the examples at the head of the statements. -/
import Derived.Test.YtbmfjchpfhealaaSymText
import Derived.Lib.SlBytesConst
namespace Go.Proofs.Ytbmfjchpfhealaa
open Go.RowKit
set_option linter.unusedVariables false
set_option linter.unusedSimpArgs false

def S4 : List Int := [0, 97, 98, 0]
theorem S4_bytes : Bytes S4 := by intro x hx; simp only [S4, List.mem_cons, List.not_mem_nil, or_false] at hx; omega
theorem S2_bytes : Bytes [97, 98] := by intro x hx; simp only [List.mem_cons, List.not_mem_nil, or_false] at hx; omega

theorem up_a (w w' : World) (h : Row .u8 w' (some ⟨w.heap.size, 0, none⟩) S4) : Calls Try.prog 16 #[.slice (some ⟨w.heap.size, 0, none⟩) 4 4, .int .u64 1] w' fun e w2 => e = .returned (.tuple #[.string ⟨#[97, 98]⟩, .nilIface]) ∧ w' = w2 :=
  symText_yes (some ⟨w.heap.size, 0, none⟩) 4 S4 1 w' h S4_bytes (by simp [S4]) (by simp [S4]) (by omega) (by simp [S4]) 2 (by decide) (by omega)
theorem up_b (w w' : World) (h : Row .u8 w' (some ⟨w.heap.size, 0, none⟩) S4) : Calls Try.prog 16 #[.slice (some ⟨w.heap.size, 0, none⟩) 4 4, .int .u64 3] w' fun e w2 => e = .returned (.tuple #[.string ⟨#[]⟩, .nilIface]) ∧ w' = w2 :=
  symText_yes (some ⟨w.heap.size, 0, none⟩) 4 S4 3 w' h S4_bytes (by simp [S4]) (by simp [S4]) (by omega) (by simp [S4]) 0 (by decide) (by omega)
theorem up_c (w w' : World) : Calls Try.prog 16 #[.slice (some ⟨w.heap.size, 0, none⟩) 4 4, .int .u64 4] w' fun e w2 => e = .returned (.tuple #[.string ⟨#[]⟩, .iface 59 (.int .i64 4)]) ∧ w' = w2 :=
  symText_range (some ⟨w.heap.size, 0, none⟩) 4 4 4 w' (by omega) (by omega) (by omega)
theorem up_d (w : World) : Calls Try.prog 16 #[.slice (some ⟨w.heap.size, 0, none⟩) 2 2, .int .u64 0] (w.alloc (.cells #[.int .u8 97, .int .u8 98] 5 (2, 3))) fun e w2 => e = .returned (.tuple #[.string ⟨#[]⟩, .iface 59 (.int .i64 4)]) ∧ w.alloc (.cells #[.int .u8 97, .int .u8 98] 5 (2, 3)) = w2 :=
  symText_open (some ⟨w.heap.size, 0, none⟩) 2 [97, 98] 0 _ (by
    intro i hi
    refine ⟨w.heap.size, 0, rfl, ?_⟩
    rw [World.cell?_alloc_mark]
    match i, hi with
    | 0, _ => rfl
    | 1, _ => rfl) S2_bytes (by simp) (by simp) (by omega) (by simp) (by decide)

set_option maxHeartbeats 1000000 in
theorem up_true (w : World) : Calls Try.prog 6 #[] w fun e w' => e = .returned (.bool true) ∧ Below w.heap.size w w' := by
  have he := run_eql_code
  have hr := Lib.hid (Row.new .u8 w S4 5)
  have kc := fun (w : World) (C : Array Value) (n c : Nat) => Lib.run_convert_bytes_const (P := Try.prog) w 22 5 C n c Try.underlying22 Try.underlying5
  go_enter Try.func6, Try.ntmps6
  go_wp2_with fail
  refine (up_a w _ hr.out).mono ?_
  rintro e w1 ⟨rfl, rfl⟩
  go_wp2_with fail
  refine (up_b w _ hr.out).mono ?_
  rintro e w1 ⟨rfl, rfl⟩
  go_wp2_with fail
  refine (up_c w _).mono ?_
  rintro e w1 ⟨rfl, hw1⟩
  have hb : Below w.heap.size w w1 := by rw [← hw1]; exact (Below.refl _ _).alloc (Nat.le_refl _) _
  clear hw1 hr
  go_wp2_with fail
  refine (up_d w1).mono ?_
  rintro e w2 ⟨rfl, hw2⟩
  have hb2 : Below w.heap.size w w2 := by rw [← hw2]; exact hb.alloc hb.size _
  clear hw2 hb
  go_wp2_with fail
  go_ret
  exact ⟨rfl, hb2⟩
end Go.Proofs.Ytbmfjchpfhealaa
