/- Layer 1, the statements' own walks: sums and products, numbers brought up, numbers joined. -/
import Derived.Test.YtobpfcipfjadaaaSpanShown
import Derived.Test.YtobpfcipfjadaaaSpanRef
namespace Go.Proofs.Ytobpfcipfjadaaa
open Go.RowKit
set_option linter.unusedVariables false
set_option linter.unusedSimpArgs false

theorem errV_0 : errV 0 = .nilIface := rfl
theorem errV_1 : errV 1 = .iface 33 (.int .i64 1) := rfl
theorem errV_28 : errV 28 = .iface 33 (.int .i64 28) := rfl

set_option maxHeartbeats 1000000 in
theorem walk_SpanSums (a0 : Option Addr) (len0 cap0 : Nat) (z0 : List Int) (a1 a2 : Int) (w : World) (w0 : IsRow .u64 w a0 len0 cap0 z0) (s0 : cap0 * 8 ≤ 140737488351232) (w1 : (Lit.int .u64 a1).wf = true) (w2 : (Lit.int .u64 a2).wf = true) :
    Calls Try.prog 3 #[.slice a0 len0 cap0, .int .u64 a1, .int .u64 a2] w fun e w' => e = .returned (.bool true) ∧ Below w.heap.size w w' := by
  obtain ⟨xs, rfl, hrow, hwf, hlc, hlm, -⟩ := w0.row
  have hx : U64s xs := fun x hx => wf_u64_bounds (hwf x hx)
  obtain ⟨p1, q1⟩ := wf_u64_bounds w1
  obtain ⟨p2, q2⟩ := wf_u64_bounds w2
  obtain ⟨a, rfl⟩ := Int.eq_ofNat_of_zero_le p1
  obtain ⟨b, rfl⟩ := Int.eq_ofNat_of_zero_le p2
  have ha : a < 18446744073709551616 := by rw [M64_eq] at q1; omega
  have hb : b < 18446744073709551616 := by rw [M64_eq] at q2; omega
  have hshown := Lib.hid (shown_true w)
  have hs := Lib.hid (fun (w1 : World) (h : Below w.heap.size w w1) => sum_any a0 cap0 xs w1 (hrow.below h) hx (by unfold maxLen; omega))
  have hr := Lib.hid (fun (w1 : World) (h : Below w.heap.size w w1) => refSum a0 cap0 xs w1 (hrow.below h) hx (by unfold maxLen; omega))
  have ht := Lib.hid (fun (w1 : World) => times_any a b w1 ha hb)
  have hq := Lib.hid (fun (w1 : World) => refTimes a b w1 ha hb)
  have he := run_eql_code
  clear w0 w1 w2 p1 q1 p2 q2 ha hb hrow hx hwf
  rcases hst : sumF xs with ⟨s, t⟩
  rcases hpq : timesF (a : Int) b with ⟨p, q⟩
  rw [hst] at hs hr
  rw [hpq] at ht hq
  clear hst hpq
  cases t <;> cases q
  all_goals
    simp only [over_yes, over_no, errV_0, errV_28] at hs ht
    go_enter Try.func3, Try.ntmps3
    go_wp2_with (first
      | (go_at_call 7; refine (Hid.out hshown).mono ?_; rintro e w1 ⟨rfl, hb⟩)
      | (go_at_call 8; refine (Hid.out hs _ hb).mono ?_; rintro e w' ⟨rfl, rfl⟩)
      | (go_at_call 9; refine (Hid.out hr _ hb).mono ?_; rintro e w' ⟨rfl, rfl⟩)
      | (go_at_call 10; refine (Hid.out ht _).mono ?_; rintro e w' ⟨rfl, rfl⟩)
      | (go_at_call 11; refine (Hid.out hq _).mono ?_; rintro e w' ⟨rfl, rfl⟩))
    go_ret
    exact ⟨rfl, hb⟩

theorem upF_code (a to : Nat) : 0 ≤ (upF a to).2 ∧ (upF a to).2 ≤ 30 := by
  unfold upF
  split
  · simp
  · split <;> simp

set_option maxHeartbeats 1000000 in
theorem walk_SpanUps (a0 a1 : Int) (w : World) (w0 : (Lit.int .u64 a0).wf = true) (w1 : (Lit.int .u64 a1).wf = true) :
    Calls Try.prog 4 #[.int .u64 a0, .int .u64 a1] w fun e w' => e = .returned (.bool true) ∧ Below w.heap.size w w' := by
  obtain ⟨p1, q1⟩ := wf_u64_bounds w0
  obtain ⟨p2, q2⟩ := wf_u64_bounds w1
  obtain ⟨a, rfl⟩ := Int.eq_ofNat_of_zero_le p1
  obtain ⟨b, rfl⟩ := Int.eq_ofNat_of_zero_le p2
  have ha : a < 18446744073709551616 := by rw [M64_eq] at q1; omega
  have hb : b < 18446744073709551616 := by rw [M64_eq] at q2; omega
  have hshown := Lib.hid (shown_true w)
  have hu := Lib.hid (fun (w1 : World) => up_any a b w1 ha hb)
  have hr := Lib.hid (fun (w1 : World) => refUp a b w1 ha hb)
  obtain ⟨c1, c2⟩ := upF_code a b
  clear w0 w1 p1 q1 p2 q2 ha hb
  rcases hpq : upF a b with ⟨p, q⟩
  rw [hpq] at hu hr c1 c2
  have hc := Lib.hid (fun (w1 : World) => code_any q w1 c1 c2)
  clear hpq c1 c2
  go_enter Try.func4, Try.ntmps4
  go_wp2_with (first
    | (go_at_call 7; refine (Hid.out hshown).mono ?_; rintro e w1 ⟨rfl, hb⟩)
    | (go_at_call 12; refine (Hid.out hu _).mono ?_; rintro e w2 ⟨rfl, hb2⟩)
    | (go_at_call 13; refine (Hid.out hr _).mono ?_; rintro e w' ⟨rfl, rfl⟩)
    | (go_at_call 14; refine (Hid.out hc _).mono ?_; rintro e w' ⟨rfl, rfl⟩))
  go_ret
  exact ⟨rfl, hb.trans (hb2.mono hb.size)⟩

set_option maxHeartbeats 2000000 in
theorem walk_SpanJoins (a0 : Int) (a1 : Option Addr) (len1 cap1 : Nat) (z1 : List Int) (w : World) (w0 : (Lit.int .i64 a0).wf = true) (w1 : IsRow .u64 w a1 len1 cap1 z1) (s1 : cap1 * 8 ≤ 140737488351232) :
    Calls Try.prog 5 #[.int .i64 a0, .slice a1 len1 cap1] w fun e w' => e = .returned (.bool true) ∧ Below w.heap.size w w' := by
  obtain ⟨xs, rfl, hrow, hwf, hlc, hlm, -⟩ := w1.row
  have hx : U64s xs := fun x hx => wf_u64_bounds (hwf x hx)
  have hshown := Lib.hid (shown_true w)
  have hl8 : xs.length * 8 ≤ 140737488351232 := by omega
  rcases Bool.eq_false_or_eq_true (wide a0) with hw | hw
  · obtain ⟨n, rfl, hn8⟩ : ∃ n : Nat, a0 = (n : Int) ∧ n ≤ 8 := ⟨a0.toNat, by simp [wide] at hw; omega, by simp [wide] at hw; omega⟩
    have hj := Lib.hid (fun (w1 : World) (h : Below w.heap.size w w1) => join_any n hw a1 cap1 xs w1 (hrow.below h) hx hl8)
    have hr := Lib.hid (fun (w1 : World) (h : Below w.heap.size w w1) => refJoin_any n hw a1 cap1 xs w1 (hrow.below h) hx hl8)
    have hc0 := Lib.hid (fun (w1 : World) => code_any 0 w1 (by omega) (by omega))
    have hc28 := Lib.hid (fun (w1 : World) => code_any 28 w1 (by omega) (by omega))
    rw [errV_0] at hc0
    rw [errV_28] at hj hc28
    have hnl : n * xs.length ≤ maxLen := by
      have : n * xs.length ≤ 8 * xs.length := Nat.mul_le_mul_right _ hn8
      unfold maxLen; omega
    have HNL := Lib.hid hnl; clear hnl
    have HJL := Lib.hid (joinF_length n xs)
    clear w0 w1 hwf hrow hx hw
    go_enter Try.func5, Try.ntmps5
    go_wp2_with fail
    refine (Hid.out hshown).mono ?_
    rintro e w1 ⟨rfl, hb1⟩
    go_wp2_with fail
    refine (Hid.out hj _ hb1).mono ?_
    rintro e w2 (⟨hroom, v, rfl, ho, hb2⟩ | ⟨hroom, rfl, hb2⟩)
    · obtain ⟨hlen, b, c, rfl, hrow1, -, hat⟩ := own_row ho
      have HR1 := Lib.hid hrow1; have HO1 := Lib.hid ho; have HAT := Lib.hid hat
      clear hrow1 ho hlen hat
      go_wp2_with fail
      refine (Hid.out hr _ (hb1.trans (hb2.mono hb1.size))).mono ?_
      rintro e w3 (⟨hroom', v3, rfl, ho3, hb3⟩ | ⟨hroom', rfl, hb3⟩)
      · obtain ⟨hlen3, b3, c3, rfl, hrow3, -, -⟩ := own_row ho3
        have HR3 := Lib.hid hrow3
        clear hrow3 ho3 hlen3
        have hsame := Lib.hid (same_any b b3 c c3 (joinF n xs) (joinF n xs) w3 (HR1.out.below hb3) HR3.out (by rw [HJL.out]; exact HNL.out) (by rw [HJL.out]; exact HNL.out))
        rw [beq_self_eq_true] at hsame
        go_wp2_with (first
          | (go_at_call 17; refine (Hid.out hsame).mono ?_; rintro e w4 ⟨rfl, hb4⟩)
          | (go_at_call 14; refine (Hid.out hc0 _).mono ?_; rintro e w' ⟨rfl, rfl⟩))
        go_ret
        have hb12 := hb1.trans (hb2.mono hb1.size)
        have hb13 := hb12.trans (hb3.mono hb12.size)
        exact ⟨rfl, hb13.trans (hb4.mono hb13.size)⟩
      · rw [hroom] at hroom'; cases hroom'
    · go_wp2_with fail
      refine (Hid.out hr _ (hb1.trans (hb2.mono hb1.size))).mono ?_
      rintro e w3 (⟨hroom', v3, rfl, ho3, hb3⟩ | ⟨hroom', rfl, hb3⟩)
      · rw [hroom] at hroom'; cases hroom'
      · have hsame := Lib.hid (same_any none none 0 0 [] [] w3 (fun i hi => by simp at hi) (fun i hi => by simp at hi) (by unfold maxLen; simp) (by unfold maxLen; simp))
        rw [beq_self_eq_true] at hsame
        go_wp2_with (first
          | (go_at_call 17; refine (Hid.out hsame).mono ?_; rintro e w4 ⟨rfl, hb4⟩)
          | (go_at_call 14; refine (Hid.out hc28 _).mono ?_; rintro e w' ⟨rfl, rfl⟩))
        go_ret
        have hb12 := hb1.trans (hb2.mono hb1.size)
        have hb13 := hb12.trans (hb3.mono hb12.size)
        exact ⟨rfl, hb13.trans (hb4.mono hb13.size)⟩
  · have hj := Lib.hid (fun (w1 : World) => join_width a0 a1 cap1 xs.length w1 hw)
    have hr := Lib.hid (fun (w1 : World) => refJoin_width a0 a1 cap1 xs.length w1 hw)
    have hc1 := Lib.hid (fun (w1 : World) => code_any 1 w1 (by omega) (by omega))
    rw [errV_1] at hj hc1
    have hsame := Lib.hid (fun (w1 : World) => same_any none none 0 0 [] [] w1 (fun i hi => by simp at hi) (fun i hi => by simp at hi) (by unfold maxLen; simp) (by unfold maxLen; simp))
    rw [beq_self_eq_true] at hsame
    clear w0 w1 hwf hrow hx hw
    go_enter Try.func5, Try.ntmps5
    go_wp2_with (first
      | (go_at_call 7; refine (Hid.out hshown).mono ?_; rintro e w1 ⟨rfl, hb⟩)
      | (go_at_call 15; refine (Hid.out hj _).mono ?_; rintro e w' ⟨rfl, rfl⟩)
      | (go_at_call 16; refine (Hid.out hr _).mono ?_; rintro e w' ⟨rfl, rfl⟩)
      | (go_at_call 17; refine (Hid.out hsame _).mono ?_; rintro e w4 ⟨rfl, hb4⟩)
      | (go_at_call 14; refine (Hid.out hc1 _).mono ?_; rintro e w' ⟨rfl, rfl⟩))
    go_ret
    exact ⟨rfl, hb.trans (hb4.mono hb.size)⟩
end Go.Proofs.Ytobpfcipfjadaaa
