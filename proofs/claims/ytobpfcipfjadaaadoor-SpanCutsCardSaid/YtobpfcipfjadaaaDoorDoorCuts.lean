/- Layer 1, the statement's own walk: cuts. -/
import Derived.Test.YtobpfcipfjadaaaDoorDoorNums
namespace Go.Proofs.YtobpfcipfjadaaaDoor
open Go.RowKit
set_option linter.unusedVariables false
set_option linter.unusedSimpArgs false

theorem is_new (off n : Int) (w w' : World) (hn : n = 4 ∨ n = 29) (hg : ErrType w') (hb : Below (w.heap.size + 1) (spotW w off n) w') :
    Calls Tryd.prog 11 #[spotV w, .int .u64 off, .int .i64 n] w' fun e w2 => e = .returned (.bool true) ∧ Below w'.heap.size w' w2 := by
  have h0 : w'.cell? ⟨w.heap.size, 0, none⟩ = some (.int .u64 off) := by
    rw [hb.cell (p := ⟨w.heap.size, 0, none⟩) (Nat.lt_succ_self _)]
    unfold spotW
    rw [World.cell?_alloc_new]
    rfl
  have h1 : w'.cell? ⟨w.heap.size, 1, none⟩ = some (.iface 34 (.int .i64 n)) := by
    rw [hb.cell (p := ⟨w.heap.size, 1, none⟩) (Nat.lt_succ_self _)]
    unfold spotW
    rw [World.cell?_alloc_new]
    rcases hn with rfl | rfl <;> rfl
  exact is_spot w.heap.size off n w' hg h0 h1

set_option maxRecDepth 100000 in
set_option maxHeartbeats 2000000 in
theorem cuts_no (a0 : Option Addr) (cap0 : Nat) (xs : List Int) (off n : Nat) (w : World) (hE : ErrType w) (hrow : Row .u8 w a0 xs) (hl : xs.length ≤ 140737488351232) (ho : off < 18446744073709551616) (hn : n < 18446744073709551616)
    (h1 : ¬ (off ≤ xs.length ∧ n ≤ xs.length - off)) :
    Calls Tryd.prog 3 #[.slice a0 xs.length cap0, .int .u64 off, .int .u64 n] w fun e w' => e = .returned (.bool true) ∧ Below w.heap.size w w' := by
  have hshown := Lib.hid (shown_true w)
  have hin := fun (w1 : World) => in_any xs.length off n w1 (by omega) ho hn
  rw [inB_no h1] at hin
  have HIN := Lib.hid hin
  have hc := Lib.hid (fun (w1 : World) => cut_no a0 cap0 xs off n w1 hl ho hn h1)
  have hrc := Lib.hid (fun (w1 : World) => refCut_no a0 cap0 xs.length off n w1 hl ho hn h1)
  have HE := Lib.hid hE
  clear hrow h1 hE hin
  go_enter Tryd.func3, Tryd.ntmps3
  go_wp2_with (first
    | (go_at_call 6; refine (Hid.out hshown).mono ?_; rintro e w1 ⟨rfl, hb⟩)
    | (go_at_call 7; refine (Hid.out HIN _).mono ?_; rintro e w' ⟨rfl, rfl⟩)
    | (go_at_call 8; refine (Hid.out hc w1).mono ?_; rintro e w2 ⟨rfl, hw2⟩; have HW2 := Lib.hid hw2; have hs2 := spotW_below w1 (off : Int) 4; rw [hw2] at hs2; have hb2 := hb.trans (hs2.mono hb.size); clear hw2)
    | (go_at_call 9; refine (Hid.out hrc _).mono ?_; rintro e w' ⟨rfl, rfl⟩)
    | (go_at_call 10; refine (same_nil _).mono ?_; rintro e w3 ⟨rfl, hb23⟩; have hb3 := hb2.trans (hb23.mono hb2.size)))
  have hz2 := spotW_size w1 (off : Int) 4
  rw [HW2.out] at hz2
  refine (is_new off 4 w1 w3 (.inl rfl) (HE.out.below hb3) (by rw [HW2.out]; exact hb23.mono (by omega))).mono ?_
  rintro e w4 ⟨rfl, hb34⟩
  have hb4 := hb3.trans (hb34.mono hb3.size)
  go_wp2_with fail
  go_ret
  exact ⟨rfl, hb4⟩

theorem own_none {w : World} {B : Nat} {T : TypeId} {a : Option Addr} {l c n : Nat} {xs : List Value} (h : w.ownsRow B T 1 (.slice a l c) n xs) : a = none → n = 0 ∧ c = 0 := by
  rintro rfl
  rcases h.2 with ⟨e, h0⟩ | ⟨g, cap, cur, e, -⟩
  · obtain ⟨-, -, rfl⟩ := Value.slice.inj e
    exact ⟨h0, rfl⟩
  · have := (Value.slice.inj e).1
    cases this
theorem own_slice {w : World} {B : Nat} {T : TypeId} {v : Value} {n : Nat} {xs : List Value} (h : w.ownsRow B T 1 v n xs) : ∃ a c, v = .slice a n c := by
  rcases h.2 with ⟨rfl, rfl⟩ | ⟨g, cap, cur, rfl, -⟩
  · exact ⟨_, _, rfl⟩
  · exact ⟨_, _, rfl⟩

set_option maxRecDepth 100000 in
set_option maxHeartbeats 1000000 in
theorem cuts_yes (a0 : Option Addr) (cap0 : Nat) (xs : List Int) (off n : Nat) (w : World) (hrow : Row .u8 w a0 xs) (hl : xs.length ≤ 140737488351232) (hnn : a0 = none → xs.length = 0 ∧ cap0 = 0) (hlc : xs.length ≤ cap0) (ho : off < 18446744073709551616) (hn : n < 18446744073709551616)
    (h1 : off ≤ xs.length) (h2 : n ≤ xs.length - off) (hby : Bytes xs) :
    Calls Tryd.prog 3 #[.slice a0 xs.length cap0, .int .u64 off, .int .u64 n] w fun e w' => e = .returned (.bool true) ∧ Below w.heap.size w w' := by
  obtain ⟨i0, hi, hz0, hz1, hz2⟩ := info_parts info8
  have HI := Lib.hid hi; have HZ0 := Lib.hid hz0; have HZ1 := Lib.hid hz1; have HZ2 := Lib.hid hz2
  clear hi hz0 hz1 hz2
  have hshown := Lib.hid (shown_true w)
  have hin := fun (w1 : World) => in_any xs.length off n w1 (by omega) ho hn
  rw [inB_yes h1 h2] at hin
  have HIN := Lib.hid hin
  have hc := Lib.hid (fun (w1 : World) (h : Below w.heap.size w w1) => cut_yes a0 cap0 xs off n w1 (hrow.below h) hl hnn hlc h1 h2)
  have hrc := Lib.hid (fun (w1 : World) (h : Below w.heap.size w w1) => refCut_yes a0 cap0 xs off n w1 (hrow.below h) hl h1 h2)
  have hc2 := Lib.hid (fun (a : Option Addr) (c : Nat) (w1 : World) (h : Row .u8 w1 a xs) (hnn : a = none → xs.length = 0 ∧ c = 0) (hlc : xs.length ≤ c) => cut_yes a c xs off n w1 h hl hnn hlc h1 h2)
  have hyl := cutOf_length (xs := xs) (off := off) h2
  have hyb : Bytes (cutOf xs off n) := fun y hy => hby y (List.mem_of_mem_drop (List.mem_of_mem_take hy))
  have hyl2 : n ≤ 140737488351232 := by omega
  have HR := Lib.hid hrow
  have HN := Lib.hid hnn
  generalize cutOf xs off n = ys at *
  have HYL := Lib.hid hyl
  have HYB := Lib.hid hyb
  clear hrow hnn h1 h2 hby hyl hyb hin
  go_enter Tryd.func3, Tryd.ntmps3
  go_wp2_with (first
    | (go_at_call 6; refine (Hid.out hshown).mono ?_; rintro e w1 ⟨rfl, hb⟩)
    | (go_at_call 7; refine (Hid.out HIN _).mono ?_; rintro e w' ⟨rfl, rfl⟩)
    | (go_at_call 9; refine (Hid.out hrc w2 hb2).mono ?_; rintro e w3 ⟨r2, rfl, ho2, hb23⟩; have hb3 := hb2.trans (hb23.mono hb2.size); obtain ⟨-, b2, c2, rfl, hr2, -, -⟩ := own_row ho2; have HR2 := Lib.hid hr2; clear hr2 ho2)
    | (go_at_call 8; refine (Hid.out hc w1 hb).mono ?_; rintro e w2 ⟨r1, rfl, ho1, hb12⟩; have hb2 := hb.trans (hb12.mono hb.size); obtain ⟨-, b1, c1, rfl, hr1, -, -⟩ := own_row ho1; have HR1 := Lib.hid hr1; clear hr1 ho1))
  refine (same_eq b1 b2 c1 c2 ys _ _ _ rfl rfl (HR1.out.below hb23) HR2.out (by unfold maxLen; have := HYL.out; omega)).mono ?_
  rintro e w4 ⟨rfl, hb34⟩
  have hb4 := hb3.trans (hb34.mono hb3.size)
  go_wp2_with (first
    | (at_builtin; refine wpList_append_copy rfl (.tmp 60) (.tmp 61) 22 rfl 5 i0 (.int .u8 0) 1 Tryd.underlying22 HI.out HZ0.out HZ1.out HZ2.out rfl .u8 a0 xs.length cap0 xs rfl rfl rfl (HR.out.below hb4) HN.out (by unfold maxLen; omega) (by omega) ?_; intro m w5 hom hbm; have hb5 := hb4.trans (hbm.mono hb4.size); obtain ⟨-, am, cm, rfl, hrm, hcm, -⟩ := own_row hom; have HMN := Lib.hid (own_none hom); have HM := Lib.hid hrm; clear hrm hom))
  refine (Hid.out hc2 am cm w5 HM.out HMN.out hcm).mono ?_
  rintro e w6 ⟨r3, rfl, ho3, hb56⟩
  have hb6 := hb5.trans (hb56.mono hb5.size)
  obtain ⟨a3, c3, rfl⟩ := own_slice ho3
  have HO3 := Lib.hid ho3
  clear ho3
  go_wp2_with fail
  go_loopw [18] (fun i wr => ∃ k : Nat, k ≤ n ∧ i = .int .i64 k ∧ Hid (∃ zs : List Int, Bytes zs ∧ zs.length = n ∧ wr.ownsRow w5.heap.size 5 1 (.slice a3 n c3) n (zs.map (Value.int .u8))) ∧ Below w5.heap.size w5 wr) (fun i _ => n - (intOf i).toNat)
  case atStart => exact ⟨0, Nat.zero_le _, rfl, Lib.hid ⟨ys, HYB.out, HYL.out, HO3.out⟩, hb56⟩
  case round =>
    obtain ⟨k, hk, rfl, hz, hbr⟩ := hrel
    by_cases hlt : k < n
    · obtain ⟨zs, hzb, hzl, hown⟩ := hz.out
      obtain ⟨g, c', e, hB3, hgs, hcp⟩ := own_shape hown (by omega)
      obtain ⟨rfl, -, rfl⟩ := Value.slice.inj e
      clear e
      have hfz := hown.frozenAt k
      have hcell : wr.cell? ⟨g, k, none⟩ = some (.int .u8 (zs.getD k 0)) := by
        have h := hown.cellAt k (by omega)
        rw [List.getElem?_map, List.getElem?_eq_getElem (by omega)] at h
        rw [h]
        simp [List.getD, show k < zs.length from by omega]
      have hx := hzb (zs.getD k 0) (by simp [List.getD, show k < zs.length from by omega])
      obtain ⟨hx1, hx2⟩ := hx
      have HZB := Lib.hid hzb; have HZL := Lib.hid hzl; have HOW := Lib.hid hown
      clear hzb hzl hown
      generalize zs.getD k 0 = x at *
      go_wp2
      go_roundw
      case rel =>
        refine ⟨k + 1, by omega, by go_num, Lib.hid ⟨zs.set k ((x + 1) % 256), ?_, ?_, ?_⟩, ?_⟩
        · intro y hy
          rcases List.mem_or_eq_of_mem_set hy with hy | rfl
          · exact HZB.out y hy
          · omega
        · rw [List.length_set, HZL.out]
        · rw [List.map_set]
          exact (HOW.out.stored k _).1
        · exact hbr.setCell hB3 _
      case measure => simp [intOf]; omega
    · have hk' : k = n := by omega
      have HK := Lib.hid hk'; clear hk'
      go_wp2_with fail
      refine (same_eq am a0 cm cap0 xs _ _ _ rfl rfl (HM.out.below hbr) (HR.out.below (hb5.trans (hbr.mono hb5.size))) (by unfold maxLen; omega)).mono ?_
      rintro e w8 ⟨rfl, hb8⟩
      have hb9 := (hb5.trans (hbr.mono hb5.size)).trans (hb8.mono (Nat.le_trans hb5.size hbr.size))
      go_wp2_with fail
      go_ret
      exact ⟨rfl, hb9⟩

theorem walk_SpanCuts (a0 : Option Addr) (len0 cap0 : Nat) (z0 : List Int) (a1 a2 : Int) (w : World) (hg : ErrType w) (w0 : IsRow .u8 w a0 len0 cap0 z0) (s0 : cap0 * 1 ≤ 140737488351232) (w1 : (Lit.int .u64 a1).wf = true) (w2 : (Lit.int .u64 a2).wf = true) :
    Calls Tryd.prog 3 #[.slice a0 len0 cap0, .int .u64 a1, .int .u64 a2] w fun e w' => e = .returned (.bool true) ∧ Below w.heap.size w w' := by
  obtain ⟨xs, rfl, hrow, hwf, hlc, hlm, hnn⟩ := w0.row
  have hx : Bytes xs := fun x hx => wf_u8_bounds (hwf x hx)
  obtain ⟨p1, q1⟩ := wf_u64_bounds w1
  obtain ⟨p2, q2⟩ := wf_u64_bounds w2
  obtain ⟨off, rfl⟩ := Int.eq_ofNat_of_zero_le p1
  obtain ⟨n, rfl⟩ := Int.eq_ofNat_of_zero_le p2
  have ho : off < 18446744073709551616 := by rw [M64_eq] at q1; omega
  have hn : n < 18446744073709551616 := by rw [M64_eq] at q2; omega
  have hl : xs.length ≤ 140737488351232 := by omega
  by_cases h1 : off ≤ xs.length ∧ n ≤ xs.length - off
  · exact cuts_yes a0 cap0 xs off n w hrow hl hnn hlc ho hn h1.1 h1.2 hx
  · exact cuts_no a0 cap0 xs off n w hg hrow hl ho hn h1
end Go.Proofs.YtobpfcipfjadaaaDoor
