/- Layer 1, the statement's own walk: numbers read and written. -/
import Derived.Test.YtobpfcipfjadaaaDoorDoorTexts
import Derived.Test.YtobpfcipfjadaaaDoorAppCopy
namespace Go.Proofs.YtobpfcipfjadaaaDoor
open Go.RowKit
set_option linter.unusedVariables false
set_option linter.unusedSimpArgs false

set_option maxRecDepth 100000 in
set_option maxHeartbeats 2000000 in
theorem numbers_width (a0 : Option Addr) (cap0 : Nat) (xs : List Int) (off : Nat) (n v : Int) (w : World) (hrow : Row .u8 w a0 xs) (hl : xs.length ≤ 140737488351232) (hn : a0 = none → xs.length = 0 ∧ cap0 = 0) (hw : wide n = false) :
    Calls Tryd.prog 4 #[.slice a0 xs.length cap0, .int .u64 off, .int .i64 n, .int .u64 v] w fun e w' => e = .returned (.bool true) ∧ Below w.heap.size w w' := by
  obtain ⟨i0, hi, hz0, hz1, hz2⟩ := info_parts info8
  have HI := Lib.hid hi; have HZ0 := Lib.hid hz0; have HZ1 := Lib.hid hz1; have HZ2 := Lib.hid hz2
  clear hi hz0 hz1 hz2
  have hshown := Lib.hid (shown_true w)
  have hg := Lib.hid (fun (w1 : World) => get_width a0 cap0 xs.length off n w1 hw)
  have hrg := Lib.hid (fun (w1 : World) => refGet_width a0 cap0 xs.length off n w1 hw)
  have hp := Lib.hid (fun (w1 : World) (a : Option Addr) (c : Nat) => put_width a c xs.length off n v w1 hw)
  have hrp := Lib.hid (fun (w1 : World) => refPut_width a0 cap0 xs.length off n v w1 hw)
  have HR := Lib.hid hrow
  have HN := Lib.hid hn
  clear hw hrow hn
  go_enter Tryd.func4, Tryd.ntmps4
  go_wp2_with (first
    | (go_at_call 6; refine (Hid.out hshown).mono ?_; rintro e w1 ⟨rfl, hb⟩)
    | (go_at_call 12; refine (Hid.out hg _).mono ?_; rintro e w' ⟨rfl, rfl⟩)
    | (go_at_call 13; refine (Hid.out hrg _).mono ?_; rintro e w' ⟨rfl, rfl⟩)
    | (at_builtin; refine wpList_append_copy rfl (.tmp 38) (.tmp 39) 22 rfl 5 i0 (.int .u8 0) 1 Tryd.underlying22 HI.out HZ0.out HZ1.out HZ2.out rfl .u8 a0 xs.length cap0 xs rfl rfl rfl (HR.out.below hb) HN.out (by unfold maxLen; omega) (by omega) ?_; intro m w2 hom hbm; obtain ⟨-, am, cm, rfl, hrm, -, -⟩ := own_row hom; have HM := Lib.hid hrm; clear hrm hom; have hb2 := hb.trans (hbm.mono hb.size))
    | (go_at_call 14; refine (Hid.out hp _ am cm).mono ?_; rintro e w' ⟨rfl, rfl⟩)
    | (go_at_call 15; refine (Hid.out hrp _).mono ?_; rintro e w' ⟨rfl, rfl⟩)
    | (go_at_call 10; refine (same_nil _).mono ?_; rintro e w3 ⟨rfl, hb3⟩; have hb23 := hb2.trans (hb3.mono hb2.size)))
  refine (right_own 1 off _ (by decide) (by decide) rfl rfl).mono ?_
  rintro e w' ⟨rfl, rfl⟩
  go_wp2_with fail
  refine (right_own 1 off _ (by decide) (by decide) rfl rfl).mono ?_
  rintro e w' ⟨rfl, rfl⟩
  go_wp2_with fail
  refine (same_eq am a0 cm cap0 xs _ _ _ rfl rfl (HM.out.below hb3) (HR.out.below hb23) (by unfold maxLen; omega)).mono ?_
  rintro e w4 ⟨rfl, hb4⟩
  have hb5 := hb23.trans (hb4.mono hb23.size)
  go_wp2_with fail
  go_ret
  exact ⟨rfl, hb5⟩

set_option maxRecDepth 100000 in
set_option maxHeartbeats 2000000 in
theorem numbers_range (a0 : Option Addr) (cap0 : Nat) (xs : List Int) (off n : Nat) (v : Int) (w : World) (hE : ErrType w) (hrow : Row .u8 w a0 xs) (hl : xs.length ≤ 140737488351232) (hn : a0 = none → xs.length = 0 ∧ cap0 = 0) (ho : off < 18446744073709551616)
    (hw : wide n = true) (h1 : ¬ (off ≤ xs.length ∧ n ≤ xs.length - off)) :
    Calls Tryd.prog 4 #[.slice a0 xs.length cap0, .int .u64 off, .int .i64 n, .int .u64 v] w fun e w' => e = .returned (.bool true) ∧ Below w.heap.size w w' := by
  obtain ⟨i0, hi, hz0, hz1, hz2⟩ := info_parts info8
  have HI := Lib.hid hi; have HZ0 := Lib.hid hz0; have HZ1 := Lib.hid hz1; have HZ2 := Lib.hid hz2
  clear hi hz0 hz1 hz2
  have hshown := Lib.hid (shown_true w)
  have hg := Lib.hid (fun (w1 : World) => get_range a0 cap0 xs off n w1 hl ho hw h1)
  have hrg := Lib.hid (fun (w1 : World) => refGet_range a0 cap0 xs.length off n w1 hl ho hw h1)
  have hp := Lib.hid (fun (w1 : World) (a : Option Addr) (c : Nat) => put_range a c xs off n v w1 hl ho hw h1)
  have hrp := Lib.hid (fun (w1 : World) => refPut_range a0 cap0 xs.length off n v w1 hl ho hw h1)
  have HR := Lib.hid hrow
  have HN := Lib.hid hn
  have HE := Lib.hid hE
  clear hw hrow hn h1 hE
  go_enter Tryd.func4, Tryd.ntmps4
  go_wp2_with (first
    | (go_at_call 6; refine (Hid.out hshown).mono ?_; rintro e w1 ⟨rfl, hb⟩)
    | (go_at_call 12; refine (Hid.out hg w1).mono ?_; rintro e w2 ⟨rfl, hw2⟩; have HW2 := Lib.hid hw2; have hs2 := spotW_below w1 (off : Int) 4; have hz2 := spotW_size w1 (off : Int) 4; rw [hw2] at hs2 hz2; have hb2 := hb.trans (hs2.mono hb.size); clear hw2)
    | (go_at_call 13; refine (Hid.out hrg _).mono ?_; rintro e w' ⟨rfl, rfl⟩)
    | (at_builtin; refine wpList_append_copy rfl (.tmp 38) (.tmp 39) 22 rfl 5 i0 (.int .u8 0) 1 Tryd.underlying22 HI.out HZ0.out HZ1.out HZ2.out rfl .u8 a0 xs.length cap0 xs rfl rfl rfl (HR.out.below hb2) HN.out (by unfold maxLen; omega) (by omega) ?_; intro m w3 hom hbm; obtain ⟨-, am, cm, rfl, hrm, -, -⟩ := own_row hom; have HM := Lib.hid hrm; clear hrm hom; have hb3 := hb2.trans (hbm.mono hb2.size))
    | (go_at_call 14; refine (Hid.out hp w3 am cm).mono ?_; rintro e w4 ⟨rfl, hw4⟩; have HW4 := Lib.hid hw4; have hs4 := spotW_below w3 (off : Int) 4; have hz4 := spotW_size w3 (off : Int) 4; rw [hw4] at hs4 hz4; have hb4 := hb3.trans (hs4.mono hb3.size); clear hw4)
    | (go_at_call 15; refine (Hid.out hrp _).mono ?_; rintro e w' ⟨rfl, rfl⟩)
    | (go_at_call 10; refine (same_nil _).mono ?_; rintro e w5 ⟨rfl, hb45⟩; have hb5 := hb4.trans (hb45.mono hb4.size)))
  refine (right_new off 4 w1 w5 (.inl rfl) (HE.out.below hb5) (by rw [HW2.out]; exact ((hbm.mono (by omega)).trans (hs4.mono (by have := hbm.size; omega))).trans (hb45.mono (by have := hbm.size; omega)))).mono ?_
  rintro e w6 ⟨rfl, hb56⟩
  have hb6 := hb5.trans (hb56.mono hb5.size)
  go_wp2_with fail
  refine (right_new off 4 w3 w6 (.inl rfl) (HE.out.below hb6) (by rw [HW4.out]; exact (hb45.mono (by omega)).trans (hb56.mono (by have := hb45.size; omega)))).mono ?_
  rintro e w7 ⟨rfl, hb67⟩
  have hb7 := hb6.trans (hb67.mono hb6.size)
  go_wp2_with fail
  refine (same_eq am a0 cm cap0 xs _ _ _ rfl rfl (HM.out.below ((hs4.trans (hb45.mono (by omega))).trans ((hb56.mono (by have := hb45.size; omega)).trans (hb67.mono (by have := hb45.size; have := hb56.size; omega))))) (HR.out.below hb7) (by unfold maxLen; omega)).mono ?_
  rintro e w8 ⟨rfl, hb8⟩
  have hb9 := hb7.trans (hb8.mono hb7.size)
  go_wp2_with fail
  go_ret
  exact ⟨rfl, hb9⟩

set_option maxRecDepth 100000 in
set_option maxHeartbeats 2000000 in
theorem numbers_over (a0 : Option Addr) (cap0 : Nat) (xs : List Int) (off n v : Nat) (w : World) (hrow : Row .u8 w a0 xs) (hby : Bytes xs) (hl : xs.length ≤ 140737488351232) (hn : a0 = none → xs.length = 0 ∧ cap0 = 0) (hlc : xs.length ≤ cap0) (ho : off < 18446744073709551616)
    (hw : wide n = true) (h1 : off ≤ xs.length) (h2 : n ≤ xs.length - off) (hv : ¬ v < 256 ^ n) (hv64 : v < 18446744073709551616) :
    Calls Tryd.prog 4 #[.slice a0 xs.length cap0, .int .u64 off, .int .i64 n, .int .u64 v] w fun e w' => e = .returned (.bool true) ∧ Below w.heap.size w w' := by
  obtain ⟨i0, hi, hz0, hz1, hz2⟩ := info_parts info8
  have HI := Lib.hid hi; have HZ0 := Lib.hid hz0; have HZ1 := Lib.hid hz1; have HZ2 := Lib.hid hz2
  clear hi hz0 hz1 hz2
  have hshown := Lib.hid (shown_true w)
  have hg := Lib.hid (fun (w1 : World) (h : Below w.heap.size w w1) => get_yes a0 cap0 xs off n w1 (hrow.below h) hby hl hn hlc hw h1 h2)
  have hrg := Lib.hid (fun (w1 : World) (h : Below w.heap.size w w1) => refGet_yes a0 cap0 xs off n w1 (hrow.below h) hby hl hw h1 h2)
  have hp := Lib.hid (fun (w1 : World) (a : Option Addr) (c : Nat) => put_over a c xs off n v w1 hl ho hw h1 h2 hv)
  have hrp := Lib.hid (fun (w1 : World) (h : Below w.heap.size w w1) => refPut_over a0 cap0 xs off n v w1 (hrow.below h) hby hl hw h1 h2 hv hv64)
  have HR := Lib.hid hrow
  have HN := Lib.hid hn
  generalize leval (cutOf xs off n) = y at *
  clear hw hrow hn h1 h2 hv hby
  go_enter Tryd.func4, Tryd.ntmps4
  go_wp2_with (first
    | (go_at_call 6; refine (Hid.out hshown).mono ?_; rintro e w1 ⟨rfl, hb⟩)
    | (go_at_call 12; refine (Hid.out hg w1 hb).mono ?_; rintro e w2 ⟨rfl, hb12⟩; have hb2 := hb.trans (hb12.mono hb.size))
    | (go_at_call 13; refine (Hid.out hrg w2 hb2).mono ?_; rintro e w3 ⟨rfl, hb23⟩; have hb3 := hb2.trans (hb23.mono hb2.size))
    | (at_builtin; refine wpList_append_copy rfl (.tmp 38) (.tmp 39) 22 rfl 5 i0 (.int .u8 0) 1 Tryd.underlying22 HI.out HZ0.out HZ1.out HZ2.out rfl .u8 a0 xs.length cap0 xs rfl rfl rfl (HR.out.below hb3) HN.out (by unfold maxLen; omega) (by omega) ?_; intro m w4 hom hbm; obtain ⟨-, am, cm, rfl, hrm, -, -⟩ := own_row hom; have HM := Lib.hid hrm; clear hrm hom; have hb4 := hb3.trans (hbm.mono hb3.size))
    | (go_at_call 14; refine (Hid.out hp w4 am cm).mono ?_; rintro e w' ⟨rfl, rfl⟩)
    | (go_at_call 15; refine (Hid.out hrp w4 hb4).mono ?_; rintro e w5 ⟨rfl, hb45⟩; have hb5 := hb4.trans (hb45.mono hb4.size))
    | (go_at_call 10; refine (same_nil _).mono ?_; rintro e w6 ⟨rfl, hb56⟩; have hb6 := hb5.trans (hb56.mono hb5.size)))
  refine (right_none off _).mono ?_
  rintro e w' ⟨rfl, rfl⟩
  go_wp2_with fail
  refine (right_own 28 off _ (by decide) (by decide) rfl rfl).mono ?_
  rintro e w' ⟨rfl, rfl⟩
  go_wp2_with fail
  refine (same_eq am a0 cm cap0 xs _ _ _ rfl rfl (HM.out.below (hb45.trans (hb56.mono hb45.size))) (HR.out.below hb6) (by unfold maxLen; omega)).mono ?_
  rintro e w7 ⟨rfl, hb7⟩
  have hb8 := hb6.trans (hb7.mono hb6.size)
  go_wp2_with fail
  go_ret
  exact ⟨rfl, hb8⟩

set_option maxRecDepth 100000 in
set_option maxHeartbeats 2000000 in
theorem numbers_yes (a0 : Option Addr) (cap0 : Nat) (xs : List Int) (off n v : Nat) (w : World) (hrow : Row .u8 w a0 xs) (hby : Bytes xs) (hl : xs.length ≤ 140737488351232) (hn : a0 = none → xs.length = 0 ∧ cap0 = 0) (hlc : xs.length ≤ cap0) (ho : off < 18446744073709551616)
    (hw : wide n = true) (h1 : off ≤ xs.length) (h2 : n ≤ xs.length - off) (hv : v < 256 ^ n) (hv64 : v < 18446744073709551616) :
    Calls Tryd.prog 4 #[.slice a0 xs.length cap0, .int .u64 off, .int .i64 n, .int .u64 v] w fun e w' => e = .returned (.bool true) ∧ Below w.heap.size w w' := by
  obtain ⟨i0, hi, hz0, hz1, hz2⟩ := info_parts info8
  have HI := Lib.hid hi; have HZ0 := Lib.hid hz0; have HZ1 := Lib.hid hz1; have HZ2 := Lib.hid hz2
  clear hi hz0 hz1 hz2
  obtain ⟨-, hn1, hn8⟩ := most_wide hw
  have hpos : 0 < xs.length := by omega
  have hshown := Lib.hid (shown_true w)
  have hg := Lib.hid (fun (w1 : World) (h : Below w.heap.size w w1) => get_yes a0 cap0 xs off n w1 (hrow.below h) hby hl hn hlc hw h1 h2)
  have hrg := Lib.hid (fun (w1 : World) (h : Below w.heap.size w w1) => refGet_yes a0 cap0 xs off n w1 (hrow.below h) hby hl hw h1 h2)
  have hp := Lib.hid (fun (w1 : World) (a : Option Addr) (c : Nat) (h : Row .u8 w1 a xs) => put_yes a c xs off n v w1 h hl (fun e => by obtain ⟨b, o, e'⟩ := h.there hpos; rw [e] at e'; cases e') hw h1 h2 hv hv64)
  have hrp := Lib.hid (fun (w1 : World) (h : Below w.heap.size w w1) => refPut_yes a0 cap0 xs off n v w1 (hrow.below h) hby hl hw h1 h2 hv hv64)
  have hyl := putAt_length (xs := xs) (ys := le n v) (o := off) (by rw [le_length]; omega)
  have hyb : Bytes (putAt xs off (le n v)) := by
    intro x hx
    simp only [putAt, List.mem_append] at hx
    rcases hx with (hx | hx) | hx
    · exact hby x (List.mem_of_mem_take hx)
    · exact le_bytes n v x hx
    · exact hby x (List.mem_of_mem_drop hx)
  have HR := Lib.hid hrow
  have HN := Lib.hid hn
  generalize leval (cutOf xs off n) = y at *
  generalize putAt xs off (le n v) = ys at *
  have HYL := Lib.hid hyl
  have HYB := Lib.hid hyb
  clear hw hrow hn h1 h2 hv hby hyl hyb
  go_enter Tryd.func4, Tryd.ntmps4
  go_wp2_with (first
    | (go_at_call 6; refine (Hid.out hshown).mono ?_; rintro e w1 ⟨rfl, hb⟩)
    | (go_at_call 12; refine (Hid.out hg w1 hb).mono ?_; rintro e w2 ⟨rfl, hb12⟩; have hb2 := hb.trans (hb12.mono hb.size))
    | (go_at_call 13; refine (Hid.out hrg w2 hb2).mono ?_; rintro e w3 ⟨rfl, hb23⟩; have hb3 := hb2.trans (hb23.mono hb2.size))
    | (at_builtin; refine wpList_append_copy rfl (.tmp 38) (.tmp 39) 22 rfl 5 i0 (.int .u8 0) 1 Tryd.underlying22 HI.out HZ0.out HZ1.out HZ2.out rfl .u8 a0 xs.length cap0 xs rfl rfl rfl (HR.out.below hb3) HN.out (by unfold maxLen; omega) (by omega) ?_; intro m w4 hom hbm; obtain ⟨-, am, cm, rfl, hrm, -, -⟩ := own_row hom; have HM := Lib.hid hrm; clear hrm hom; have hb4 := hb3.trans (hbm.mono hb3.size))
    | (go_at_call 14; refine (Hid.out hp w4 am cm HM.out).mono ?_; rintro e w5 ⟨r1, rfl, ho1, hb45⟩; have hb5 := hb4.trans (hb45.mono hb4.size); obtain ⟨g, c1, rfl, hB1, hg1, hc1⟩ := own_shape ho1 hpos; have HO1 := Lib.hid ho1; clear ho1)
    | (go_at_call 15; refine (Hid.out hrp w5 hb5).mono ?_; rintro e w6 ⟨r2, rfl, ho2, hb56⟩; have hb6 := hb5.trans (hb56.mono hb5.size); obtain ⟨g2, c2, rfl, hB2, hg2, hc2⟩ := own_shape ho2 hpos; have HO2 := Lib.hid ho2; clear ho2))
  have HO16 := Lib.hid (own_below HO1.out hb56)
  refine (same_eq _ _ _ _ ys _ _ _ HYL.out.symm HYL.out.symm ?_ ?_ (by unfold maxLen; have := HYL.out; omega)).mono ?_
  · obtain ⟨-, a', c', e, hr, -⟩ := own_row HO16.out
    obtain ⟨rfl, -, rfl⟩ := Value.slice.inj e
    exact hr
  · obtain ⟨-, a', c', e, hr, -⟩ := own_row HO2.out
    obtain ⟨rfl, -, rfl⟩ := Value.slice.inj e
    exact hr
  rintro e w7 ⟨rfl, hb67⟩
  have hb7 := hb6.trans (hb67.mono hb6.size)
  have HO17 := Lib.hid (own_below HO16.out hb67)
  clear HO1 HO2 HO16
  go_wp2_with fail
  refine (right_none off _).mono ?_
  rintro e w' ⟨rfl, rfl⟩
  go_wp2_with fail
  refine (right_none off _).mono ?_
  rintro e w' ⟨rfl, rfl⟩
  have hfz := HO17.out.frozenAt 0
  have hcell : w7.cell? ⟨g, 0, none⟩ = some (.int .u8 (ys.getD 0 0)) := by
    have h := HO17.out.cellAt 0 (by omega)
    rw [List.getElem?_map, List.getElem?_eq_getElem (by rw [HYL.out]; exact hpos)] at h
    rw [h]
    simp [List.getD, show 0 < ys.length from by rw [HYL.out]; exact hpos]
  have hx := HYB.out (ys.getD 0 0) (by simp [List.getD, show 0 < ys.length from by rw [HYL.out]; exact hpos])
  obtain ⟨hx1, hx2⟩ := hx
  generalize ys.getD 0 0 = x at *
  go_wp2_with fail
  have hs7 : Below w4.heap.size w4 w7 := (hb45.trans (hb56.mono hb45.size)).trans (hb67.mono (by have := hb45.size; have := hb56.size; omega))
  refine (same_eq am a0 cm cap0 xs _ _ _ rfl rfl (HM.out.below (hs7.setCell hB1 _)) (HR.out.below (hb7.setCell (Nat.le_trans hb4.size hB1) _)) (by unfold maxLen; omega)).mono ?_
  rintro e w8 ⟨rfl, hb8⟩
  have hb9 := (hb7.setCell (p := ⟨g, 0, none⟩) (Nat.le_trans hb4.size hB1) _).trans (hb8.mono (by simp; exact hb7.size))
  go_wp2_with fail
  go_ret
  exact ⟨rfl, hb9⟩

theorem walk_SpanNumbers (a0 : Option Addr) (len0 cap0 : Nat) (z0 : List Int) (a1 a2 a3 : Int) (w : World) (hg : ErrType w) (w0 : IsRow .u8 w a0 len0 cap0 z0) (s0 : cap0 * 1 ≤ 140737488351232) (w1 : (Lit.int .u64 a1).wf = true) (w2 : (Lit.int .i64 a2).wf = true) (w3 : (Lit.int .u64 a3).wf = true) :
    Calls Tryd.prog 4 #[.slice a0 len0 cap0, .int .u64 a1, .int .i64 a2, .int .u64 a3] w fun e w' => e = .returned (.bool true) ∧ Below w.heap.size w w' := by
  obtain ⟨xs, rfl, hrow, hwf, hlc, hlm, hn⟩ := w0.row
  have hx : Bytes xs := fun x hx => wf_u8_bounds (hwf x hx)
  obtain ⟨p1, q1⟩ := wf_u64_bounds w1
  obtain ⟨p3, q3⟩ := wf_u64_bounds w3
  obtain ⟨off, rfl⟩ := Int.eq_ofNat_of_zero_le p1
  obtain ⟨v, rfl⟩ := Int.eq_ofNat_of_zero_le p3
  have ho : off < 18446744073709551616 := by rw [M64_eq] at q1; omega
  have hv64 : v < 18446744073709551616 := by rw [M64_eq] at q3; omega
  have hl : xs.length ≤ 140737488351232 := by omega
  by_cases hw : wide a2 = true
  · obtain ⟨n, rfl⟩ : ∃ n : Nat, a2 = n := ⟨a2.toNat, by simp [wide] at hw; omega⟩
    by_cases h1 : off ≤ xs.length ∧ n ≤ xs.length - off
    · by_cases hv : v < 256 ^ n
      · exact numbers_yes a0 cap0 xs off n v w hrow hx hl hn hlc ho hw h1.1 h1.2 hv hv64
      · exact numbers_over a0 cap0 xs off n v w hrow hx hl hn hlc ho hw h1.1 h1.2 hv hv64
    · exact numbers_range a0 cap0 xs off n v w hg hrow hl hn ho hw h1
  · exact numbers_width a0 cap0 xs off a2 v w hrow hl hn (by simpa using hw)
end Go.Proofs.YtobpfcipfjadaaaDoor
