/- Layer 1, the statements' own walks: sums and products, numbers brought up, numbers joined. -/
import Derived.Test.YtobpfcipfjadaaaSpanShown
import Derived.Test.YtobpfcipfjadaaaSpanRef
namespace Go.Proofs.Ytobpfcipfjadaaa
open Go.RowKit
set_option linter.unusedVariables false
set_option linter.unusedSimpArgs false

theorem errV_0 : errV 0 = .nilIface := rfl
theorem errV_1 : errV 1 = .iface 33 (.int .i64 1) := rfl
theorem errV_28 : errV 28 = .iface 33 (.int .i64 28) := rfl

set_option maxHeartbeats 1000000 in
theorem walk_SpanSums (a0 : Option Addr) (len0 cap0 : Nat) (z0 : List Int) (a1 a2 : Int) (w : World) (w0 : IsRow .u64 w a0 len0 cap0 z0) (s0 : cap0 * 8 ≤ 140737488351232) (w1 : (Lit.int .u64 a1).wf = true) (w2 : (Lit.int .u64 a2).wf = true) :
    Calls Try.prog 3 #[.slice a0 len0 cap0, .int .u64 a1, .int .u64 a2] w fun e w' => e = .returned (.bool true) ∧ Below w.heap.size w w' := by
  obtain ⟨xs, rfl, hrow, hwf, hlc, hlm, -⟩ := w0.row
  have hx : U64s xs := fun x hx => wf_u64_bounds (hwf x hx)
  obtain ⟨p1, q1⟩ := wf_u64_bounds w1
  obtain ⟨p2, q2⟩ := wf_u64_bounds w2
  obtain ⟨a, rfl⟩ := Int.eq_ofNat_of_zero_le p1
  obtain ⟨b, rfl⟩ := Int.eq_ofNat_of_zero_le p2
  have ha : a < 18446744073709551616 := by rw [M64_eq] at q1; omega
  have hb : b < 18446744073709551616 := by rw [M64_eq] at q2; omega
  have hshown := Lib.hid (shown_true w)
  have hs := Lib.hid (fun (w1 : World) (h : Below w.heap.size w w1) => sum_any a0 cap0 xs w1 (hrow.below h) hx (by unfold maxLen; omega))
  have hr := Lib.hid (fun (w1 : World) (h : Below w.heap.size w w1) => refSum a0 cap0 xs w1 (hrow.below h) hx (by unfold maxLen; omega))
  have ht := Lib.hid (fun (w1 : World) => times_any a b w1 ha hb)
  have hq := Lib.hid (fun (w1 : World) => refTimes a b w1 ha hb)
  have he := run_eql_code
  clear w0 w1 w2 p1 q1 p2 q2 ha hb hrow hx hwf
  rcases hst : sumF xs with ⟨s, t⟩
  rcases hpq : timesF (a : Int) b with ⟨p, q⟩
  rw [hst] at hs hr
  rw [hpq] at ht hq
  clear hst hpq
  cases t <;> cases q
  all_goals
    simp only [over_yes, over_no, errV_0, errV_28] at hs ht
    go_enter Try.func3, Try.ntmps3
    go_wp2_with (first
      | (go_at_call 7; refine (Hid.out hshown).mono ?_; rintro e w1 ⟨rfl, hb⟩)
      | (go_at_call 8; refine (Hid.out hs _ hb).mono ?_; rintro e w' ⟨rfl, rfl⟩)
      | (go_at_call 9; refine (Hid.out hr _ hb).mono ?_; rintro e w' ⟨rfl, rfl⟩)
      | (go_at_call 10; refine (Hid.out ht _).mono ?_; rintro e w' ⟨rfl, rfl⟩)
      | (go_at_call 11; refine (Hid.out hq _).mono ?_; rintro e w' ⟨rfl, rfl⟩))
    go_ret
    exact ⟨rfl, hb⟩
end Go.Proofs.Ytobpfcipfjadaaa
