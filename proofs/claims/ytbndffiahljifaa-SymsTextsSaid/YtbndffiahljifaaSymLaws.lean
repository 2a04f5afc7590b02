/- Layer 6, the statement's own walk: a string of any table, at any place. -/
import Derived.Test.YtbndffiahljifaaSymText
import Derived.Lib.SlBytesConst
namespace Go.Proofs.Ytbndffiahljifaa
open Go.RowKit
set_option linter.unusedVariables false
set_option linter.unusedSimpArgs false

def S4 : List Int := [0, 97, 98, 0]
theorem S4_bytes : Bytes S4 := by intro x hx; simp only [S4, List.mem_cons, List.not_mem_nil, or_false] at hx; omega
theorem S2_bytes : Bytes [97, 98] := by intro x hx; simp only [List.mem_cons, List.not_mem_nil, or_false] at hx; omega

theorem up_a (w w' : World) (h : Row .u8 w' (some ⟨w.heap.size, 0, none⟩) S4) : Calls Try.prog 5 #[.slice (some ⟨w.heap.size, 0, none⟩) 4 4, .int .u64 1] w' fun e w2 => e = .returned (.tuple #[.string ⟨#[97, 98]⟩, .nilIface]) ∧ w' = w2 :=
  symText_yes (some ⟨w.heap.size, 0, none⟩) 4 S4 1 w' h S4_bytes (by simp [S4]) (by simp [S4]) (by omega) (by simp [S4]) 2 (by decide) (by omega)
theorem up_b (w w' : World) (h : Row .u8 w' (some ⟨w.heap.size, 0, none⟩) S4) : Calls Try.prog 5 #[.slice (some ⟨w.heap.size, 0, none⟩) 4 4, .int .u64 3] w' fun e w2 => e = .returned (.tuple #[.string ⟨#[]⟩, .nilIface]) ∧ w' = w2 :=
  symText_yes (some ⟨w.heap.size, 0, none⟩) 4 S4 3 w' h S4_bytes (by simp [S4]) (by simp [S4]) (by omega) (by simp [S4]) 0 (by decide) (by omega)
theorem up_c (w w' : World) : Calls Try.prog 5 #[.slice (some ⟨w.heap.size, 0, none⟩) 4 4, .int .u64 4] w' fun e w2 => e = .returned (.tuple #[.string ⟨#[]⟩, .iface 33 (.int .i64 4)]) ∧ w' = w2 :=
  symText_range (some ⟨w.heap.size, 0, none⟩) 4 4 4 w' (by omega) (by omega) (by omega)
theorem up_d (w : World) : Calls Try.prog 5 #[.slice (some ⟨w.heap.size, 0, none⟩) 2 2, .int .u64 0] (w.alloc (.cells #[.int .u8 97, .int .u8 98] 5 (2, 3))) fun e w2 => e = .returned (.tuple #[.string ⟨#[]⟩, .iface 33 (.int .i64 4)]) ∧ w.alloc (.cells #[.int .u8 97, .int .u8 98] 5 (2, 3)) = w2 :=
  symText_open (some ⟨w.heap.size, 0, none⟩) 2 [97, 98] 0 _ (by
    intro i hi
    refine ⟨w.heap.size, 0, rfl, ?_⟩
    rw [World.cell?_alloc_mark]
    match i, hi with
    | 0, _ => rfl
    | 1, _ => rfl) S2_bytes (by simp) (by simp) (by omega) (by simp) (by decide)

set_option maxHeartbeats 1000000 in
theorem up_true (w : World) : Calls Try.prog 4 #[] w fun e w' => e = .returned (.bool true) ∧ Below w.heap.size w w' := by
  have he := run_eql_code
  have hr := Lib.hid (Row.new .u8 w S4 5)
  have kc := fun (w : World) (C : Array Value) (n c : Nat) => Lib.run_convert_bytes_const (P := Try.prog) w 22 5 C n c Try.underlying22 Try.underlying5
  go_enter Try.func4, Try.ntmps4
  go_wp2_with fail
  refine (up_a w _ hr.out).mono ?_
  rintro e w1 ⟨rfl, rfl⟩
  go_wp2_with fail
  refine (up_b w _ hr.out).mono ?_
  rintro e w1 ⟨rfl, rfl⟩
  go_wp2_with fail
  refine (up_c w _).mono ?_
  rintro e w1 ⟨rfl, hw1⟩
  have hb : Below w.heap.size w w1 := by rw [← hw1]; exact (Below.refl _ _).alloc (Nat.le_refl _) _
  clear hw1 hr
  go_wp2_with fail
  refine (up_d w1).mono ?_
  rintro e w2 ⟨rfl, hw2⟩
  have hb2 : Below w.heap.size w w2 := by rw [← hw2]; exact hb.alloc hb.size _
  clear hw2 hb
  go_wp2_with fail
  go_ret
  exact ⟨rfl, hb2⟩

set_option maxHeartbeats 1000000 in
theorem texts_case (a0 : Option Addr) (cap0 : Nat) (xs : List Int) (off : Nat) (w : World) (t : ByteArray) (c : Int) (hc0 : 0 ≤ c) (hc1 : c ≤ 30)
    (h1 : ∀ w1, Below w.heap.size w w1 → Calls Try.prog 5 #[.slice a0 xs.length cap0, .int .u64 off] w1 fun e w' => e = .returned (.tuple #[.string t, errV c]) ∧ w1 = w')
    (h2 : ∀ w1, Below w.heap.size w w1 → Calls Try.prog 6 #[.slice a0 xs.length cap0, .int .u64 off] w1 fun e w' => e = .returned (.tuple #[.string t, .int .i64 c]) ∧ w1 = w') :
    Calls Try.prog 3 #[.slice a0 xs.length cap0, .int .u64 off] w fun e w' => e = .returned (.bool true) ∧ Below w.heap.size w w' := by
  have hu := Lib.hid (up_true w)
  have H1 := Lib.hid h1
  have H2 := Lib.hid h2
  have hc := Lib.hid (fun (w1 : World) => code_any c w1 hc0 hc1)
  generalize errV c = v at *
  clear h1 h2
  go_enter Try.func3, Try.ntmps3
  go_wp2_with (first
    | (go_at_call 4; refine (Hid.out hu).mono ?_; rintro e w1 ⟨rfl, hb⟩)
    | (go_at_call 5; refine (Hid.out H1 _ hb).mono ?_; rintro e w' ⟨rfl, rfl⟩)
    | (go_at_call 6; refine (Hid.out H2 _ hb).mono ?_; rintro e w' ⟨rfl, rfl⟩)
    | (go_at_call 7; refine (Hid.out hc _).mono ?_; rintro e w' ⟨rfl, rfl⟩))
  go_ret
  exact ⟨rfl, hb⟩

theorem walk_SymsTexts (a0 : Option Addr) (len0 cap0 : Nat) (z0 : List Int) (a1 : Int) (w : World) (w0 : IsRow .u8 w a0 len0 cap0 z0) (s0 : cap0 * 1 ≤ 140737488351232) (w1 : (Lit.int .u64 a1).wf = true) :
    Calls Try.prog 3 #[.slice a0 len0 cap0, .int .u64 a1] w fun e w' => e = .returned (.bool true) ∧ Below w.heap.size w w' := by
  obtain ⟨xs, rfl, hrow, hwf, hlc, hlm, -⟩ := w0.row
  have hx : Bytes xs := fun x hx => wf_u8_bounds (hwf x hx)
  obtain ⟨p1, q1⟩ := wf_u64_bounds w1
  obtain ⟨off, rfl⟩ := Int.eq_ofNat_of_zero_le p1
  have ho : off < 18446744073709551616 := by rw [M64_eq] at q1; omega
  have hl : xs.length ≤ 140737488351232 := by omega
  by_cases h1 : off < xs.length
  · by_cases hk : Lib.indexByte (Lib.bytesOf (xs.drop off)) 0 = -1
    · exact texts_case a0 cap0 xs off w _ 4 (by omega) (by omega) (fun w1 h => symText_open a0 cap0 xs off w1 (hrow.below h) hx hl hlc ho h1 hk) (fun w1 h => refText_open a0 cap0 xs off w1 (hrow.below h) hx hl h1 hk)
    · obtain ⟨k, hk⟩ : ∃ k : Nat, Lib.indexByte (Lib.bytesOf (xs.drop off)) 0 = (k : Int) := by
        have := Lib.indexByte_ge (Lib.bytesOf (xs.drop off)) 0
        exact ⟨(Lib.indexByte (Lib.bytesOf (xs.drop off)) 0).toNat, by omega⟩
      by_cases hk3 : k ≤ 255
      · exact texts_case a0 cap0 xs off w _ 0 (by omega) (by omega) (fun w1 h => symText_yes a0 cap0 xs off w1 (hrow.below h) hx hl hlc ho h1 k hk hk3) (fun w1 h => refText_yes a0 cap0 xs off w1 (hrow.below h) hx hl hlc k hk hk3)
      · exact texts_case a0 cap0 xs off w _ 2 (by omega) (by omega) (fun w1 h => symText_long a0 cap0 xs off w1 (hrow.below h) hx hl hlc ho h1 k hk (by omega)) (fun w1 h => refText_long a0 cap0 xs off w1 (hrow.below h) hx hl hlc k hk (by omega))
  · exact texts_case a0 cap0 xs off w _ 4 (by omega) (by omega) (fun w1 h => symText_range a0 cap0 xs.length off w1 hl ho h1) (fun w1 h => refText_range a0 cap0 xs.length off w1 hl ho h1)
end Go.Proofs.Ytbndffiahljifaa
