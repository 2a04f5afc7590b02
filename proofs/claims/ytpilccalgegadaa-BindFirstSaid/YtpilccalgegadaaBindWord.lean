/- Layer 17, the examples: a symbol's word, the version of an index, whether a symbol may be bound. -/
import Derived.Test.YtpilccalgegadaaBindOne
namespace Go.Proofs.Ytpilccalgegadaa
open Go.RowKit
set_option linter.unusedVariables false
set_option linter.unusedSimpArgs false

set_option maxRecDepth 100000 in
set_option maxHeartbeats 8000000 in
theorem word_ex (C : Array Value) (h54 : C.size = 54) (has : Bool) (wa : Option Addr) (wl wc : Nat) (wv : Nat) (w : World) (h46 : C[46]? = some (.bool has)) (h47 : C[47]? = some (.slice wa wl wc)) (hw : has = true → wl = 2 ∧ ∃ b, wa = some ⟨b, 0, none⟩ ∧ b < w.heap.size ∧ w.cell? ⟨b, 1, none⟩ = some (.int .i64 (wv : Int))) :
    Calls Try.prog 20 #[.agg C, .int .i64 1] w fun e w' => e = .returned (.tuple #[.int .i64 (if has = true then (wv : Int) else 0), .bool has]) ∧ Below w.heap.size w w' := by
  have HB : Hid (Below w.heap.size w (w.alloc (.cells C 55))) := Lib.hid ((Below.refl _ _).alloc (Nat.le_refl _) _)
  have c46 : (w.alloc (.cells C 55)).cell? ⟨w.heap.size, 46, none⟩ = some (.bool has) := by rw [cell_of_row _ _ 46 _ _ _ (heap_alloc_new _ _)]; exact h46
  have c47 : (w.alloc (.cells C 55)).cell? ⟨w.heap.size, 47, none⟩ = some (.slice wa wl wc) := by rw [cell_of_row _ _ 47 _ _ _ (heap_alloc_new _ _)]; exact h47
  clear h46 h47
  cases has with
  | false =>
    clear hw
    go_enter Try.func20, Try.ntmps20
    go_wp2_with fail
    go_ret2
    exact ⟨rfl, HB.out⟩
  | true =>
    obtain ⟨rfl, b, rfl, hlt, hc⟩ := hw rfl
    have hc2 : (w.alloc (.cells C 55)).cell? ⟨b, 1, none⟩ = some (.int .i64 (wv : Int)) := by rw [HB.out.cell (p := ⟨b, 1, none⟩) hlt]; exact hc
    clear hw hc
    go_enter Try.func20, Try.ntmps20
    go_wp2_with fail
    go_ret2
    exact ⟨rfl, HB.out⟩

set_option maxRecDepth 100000 in
set_option maxHeartbeats 8000000 in
theorem mayBind_ex (w : World) :
    Calls Try.prog 12 #[.agg #[.string ⟨#[102]⟩, .int .i64 1, .int .i64 2, .int .i64 0, .int .i64 7, .int .u64 16, .int .u64 0]] w fun e w' => e = .returned (.bool true) ∧ Below w.heap.size w w' := by
  have HB : Hid (Below w.heap.size w (w.alloc (.cells #[.string ⟨#[102]⟩, .int .i64 1, .int .i64 2, .int .i64 0, .int .i64 7, .int .u64 16, .int .u64 0] 62))) := Lib.hid ((Below.refl _ _).alloc (Nat.le_refl _) _)
  go_enter Try.func12, Try.ntmps12
  go_wp2_with fail
  go_ret
  exact ⟨rfl, HB.out⟩

set_option maxRecDepth 100000 in
set_option maxHeartbeats 8000000 in
theorem version_ex (C : Array Value) (h54 : C.size = 54) (db dc x : Nat) (w : World) (h48 : C[48]? = some (.slice (some ⟨db, 0, none⟩) 1 dc)) (h49 : C[49]? = some (.slice none 0 0)) (hd : w.heap[db]? = some (.cells #[.int .i64 2, .bool false, .string ⟨#[86, 49]⟩, .slice none 0 0] 37)) (hx : x < 40000) :
    Calls Try.prog 21 #[.agg C, .int .i64 (x : Int)] w fun e w' => e = .returned (.tuple #[.agg #[.string (if x = 2 then ⟨#[86, 49]⟩ else ⟨#[]⟩), .string ⟨#[]⟩], .bool (decide (x = 2))]) ∧ Below w.heap.size w w' := by
  have B1 : Hid (Below w.heap.size w ((w.alloc (.cells C 55)).alloc (.cells #[.string ⟨#[]⟩, .string ⟨#[]⟩] 85))) := Lib.hid (((Below.refl _ _).alloc (Nat.le_refl _) _).alloc (by simp) _)
  have HC : Hid (∀ wx, Below ((w.alloc (.cells C 55)).alloc (.cells #[.string ⟨#[]⟩, .string ⟨#[]⟩] 85)).heap.size ((w.alloc (.cells C 55)).alloc (.cells #[.string ⟨#[]⟩, .string ⟨#[]⟩] 85)) wx → wx.cell? ⟨w.heap.size, 48, none⟩ = some (.slice (some ⟨db, 0, none⟩) 1 dc) ∧ wx.cell? ⟨w.heap.size, 49, none⟩ = some (.slice none 0 0) ∧ wx.heap[w.heap.size + 1]? = some (.cells #[.string ⟨#[]⟩, .string ⟨#[]⟩] 85)) := Lib.hid (fun wx hb => by
    have e0 : ((w.alloc (.cells C 55)).alloc (.cells #[.string ⟨#[]⟩, .string ⟨#[]⟩] 85)).heap[w.heap.size]? = some (.cells C 55) := (heap_alloc_old _ _ (by simp)).trans (heap_alloc_new _ _)
    have e1 : ((w.alloc (.cells C 55)).alloc (.cells #[.string ⟨#[]⟩, .string ⟨#[]⟩] 85)).heap[w.heap.size + 1]? = some (.cells #[.string ⟨#[]⟩, .string ⟨#[]⟩] 85) := by
      have := heap_alloc_new (w.alloc (.cells C 55)) (.cells #[.string ⟨#[]⟩, .string ⟨#[]⟩] 85)
      simpa using this
    have k0 := (hb.block _ (lt_of_block e0)).trans e0
    exact ⟨by rw [cell_of_row _ _ 48 _ _ _ k0]; exact h48, by rw [cell_of_row _ _ 49 _ _ _ k0]; exact h49, (hb.block _ (lt_of_block e1)).trans e1⟩)
  have HD : Hid (∀ wx, Below w.heap.size w wx → wx.cell? ⟨db, 0, none⟩ = some (.int .i64 2) ∧ wx.cell? ⟨db, 1, none⟩ = some (.bool false) ∧ wx.cell? ⟨db, 2, none⟩ = some (.string ⟨#[86, 49]⟩) ∧ wx.cell? ⟨db, 3, none⟩ = some (.slice none 0 0)) := Lib.hid (fun wx hb => by
    have k0 := (hb.block _ (lt_of_block hd)).trans hd
    exact ⟨by rw [cell_of_row _ _ 0 _ _ _ k0]; rfl, by rw [cell_of_row _ _ 1 _ _ _ k0]; rfl, by rw [cell_of_row _ _ 2 _ _ _ k0]; rfl, by rw [cell_of_row _ _ 3 _ _ _ k0]; rfl⟩)
  obtain ⟨nm, hnm⟩ : ∃ nm : ByteArray, (if x = 2 then ⟨#[86, 49]⟩ else ⟨#[]⟩) = nm := ⟨_, rfl⟩
  obtain ⟨bv, hbv⟩ : ∃ bv, decide (x = 2) = bv := ⟨_, rfl⟩
  rw [hnm, hbv]
  have HNM : Hid ((x = 2 → nm = ⟨#[86, 49]⟩ ∧ bv = true) ∧ (¬ x = 2 → nm = ⟨#[]⟩ ∧ bv = false)) := Lib.hid ⟨fun h => ⟨by rw [← hnm, if_pos h], by rw [← hbv]; exact decide_eq_true h⟩, fun h => ⟨by rw [← hnm, if_neg h], by rw [← hbv]; exact decide_eq_false h⟩⟩
  clear hnm hbv
  clear h48 h49 hd
  obtain ⟨q0, q1, -⟩ := HC.out _ (Below.refl _ _)
  go_enter Try.func21, Try.ntmps21
  go_wp2_with fail
  clear q0 q1
  generalize ((w.alloc (.cells C 55)).alloc (.cells #[.string ⟨#[]⟩, .string ⟨#[]⟩] 85)) = w1 at *
  go_loopg [16] 1 (fun g i wr => ∃ k : Nat, k + g = 1 ∧ i = .int .i64 (k : Int) ∧ Hid (k = 1 → ¬ x = 2) ∧ Hid (Below w1.heap.size w1 wr))
  case atStart => exact ⟨0, by omega, rfl, Lib.hid (by omega), Lib.hid (Below.refl _ _)⟩
  case round =>
    obtain ⟨k, hk, rfl, HX, HB⟩ := hrel
    obtain ⟨q0, q1, q2⟩ := HC.out _ HB.out
    obtain ⟨d0, d1, d2, d3⟩ := HD.out _ (B1.out.trans (HB.out.mono B1.out.size))
    have HB2 := Lib.hid (B1.out.trans (HB.out.mono B1.out.size))
    cases gk with
    | zero =>
      obtain rfl : k = 1 := by omega
      have hx2 := HX.out rfl
      have HN := Lib.hid (HNM.out.2 hx2)
      clear hx2
      clear d0 d1 d2 d3
      go_wp2_with fail
      go_loopg [41] 0 (fun g i wx => g = 0 ∧ i = .int .i64 0 ∧ wr = wx)
      case atStart => exact ⟨rfl, rfl, rfl⟩
      case round =>
        obtain ⟨rfl, rfl, rfl⟩ := hrel
        have v0 : wr.cell? ⟨w.heap.size + 1, 0, none⟩ = some (.string ⟨#[]⟩) := by rw [cell_of_row _ _ 0 _ _ _ q2]; rfl
        have v1 : wr.cell? ⟨w.heap.size + 1, 1, none⟩ = some (.string ⟨#[]⟩) := by rw [cell_of_row _ _ 1 _ _ _ q2]; rfl
        have f0 := frozen_of_row wr (w.heap.size + 1) 0 _ _ q2
        have f1 := frozen_of_row wr (w.heap.size + 1) 1 _ _ q2
        have g0 := heap_setCell_same wr (w.heap.size + 1) 0 _ _ (.string ⟨#[]⟩) q2
        have g1 := heap_setCell_same _ (w.heap.size + 1) 1 _ _ (.string ⟨#[]⟩) g0
        have r0 : ((wr.setCell ⟨w.heap.size + 1, 0, none⟩ (.string ⟨#[]⟩)).setCell ⟨w.heap.size + 1, 1, none⟩ (.string ⟨#[]⟩)).cell? ⟨w.heap.size + 1, 0, none⟩ = some (.string ⟨#[]⟩) := by rw [cell_of_row _ _ 0 _ _ _ g1]; rfl
        have r1 : ((wr.setCell ⟨w.heap.size + 1, 0, none⟩ (.string ⟨#[]⟩)).setCell ⟨w.heap.size + 1, 1, none⟩ (.string ⟨#[]⟩)).cell? ⟨w.heap.size + 1, 1, none⟩ = some (.string ⟨#[]⟩) := by rw [cell_of_row _ _ 1 _ _ _ g1]; rfl
        have RR0 := Lib.hid r0
        have RR1 := Lib.hid r1
        have BZ : Hid (Below w.heap.size w ((wr.setCell ⟨w.heap.size + 1, 0, none⟩ (.string ⟨#[]⟩)).setCell ⟨w.heap.size + 1, 1, none⟩ (.string ⟨#[]⟩))) := Lib.hid (by
          rw [setCell_eq_setRow _ _ 1 _ _ _ _ g0, setCell_eq_setRow _ _ 0 _ _ _ _ q2]
          exact below_setRow (below_setRow HB2.out (by omega) _) (by omega) _)
        clear r0 r1 g0 g1 q2
        go_wp2_with fail
        refine bodyPost_ret (by simp [results, Try.results21, go_sem, RR0.out, RR1.out]; try rfl) rfl ?_
        exact ⟨by rw [HN.out.1, HN.out.2], BZ.out⟩
    | succ g =>
      obtain rfl : k = 0 := by omega
      obtain rfl : g = 0 := by omega
      by_cases hx2 : x = 2
      · have HN := Lib.hid (HNM.out.1 hx2)
        subst hx2
        have q3 := (heap_alloc_old wr (.cells #[.int .i64 2, .bool false, .string ⟨#[86, 49]⟩, .slice none 0 0] 37) (lt_of_block q2)).trans q2
        have HB3 := Lib.hid (HB2.out.alloc HB2.out.size (.cells #[.int .i64 2, .bool false, .string ⟨#[86, 49]⟩, .slice none 0 0] 37))
        clear q2
        have n2 : (wr.alloc (.cells #[.int .i64 2, .bool false, .string ⟨#[86, 49]⟩, .slice none 0 0] 37)).cell? ⟨wr.heap.size, 2, none⟩ = some (.string ⟨#[86, 49]⟩) := by rw [cell_of_row _ _ 2 _ _ _ (heap_alloc_new _ _)]; rfl
        go_upto_region 5 with fail
        clear d0 d1 d2 d3
        generalize (wr.alloc (.cells #[.int .i64 2, .bool false, .string ⟨#[86, 49]⟩, .slice none 0 0] 37)) = w4 at *
        generalize wr.heap.size = vb at *
        have v0 : w4.cell? ⟨w.heap.size + 1, 0, none⟩ = some (.string ⟨#[]⟩) := by rw [cell_of_row _ _ 0 _ _ _ q3]; rfl
        have v1 : w4.cell? ⟨w.heap.size + 1, 1, none⟩ = some (.string ⟨#[]⟩) := by rw [cell_of_row _ _ 1 _ _ _ q3]; rfl
        have f0 := frozen_of_row w4 (w.heap.size + 1) 0 _ _ q3
        have f1 := frozen_of_row w4 (w.heap.size + 1) 1 _ _ q3
        have g0 := heap_setCell_same w4 (w.heap.size + 1) 0 _ _ (.string ⟨#[86, 49]⟩) q3
        have g1 := heap_setCell_same _ (w.heap.size + 1) 1 _ _ (.string ⟨#[]⟩) g0
        have r0 : ((w4.setCell ⟨w.heap.size + 1, 0, none⟩ (.string ⟨#[86, 49]⟩)).setCell ⟨w.heap.size + 1, 1, none⟩ (.string ⟨#[]⟩)).cell? ⟨w.heap.size + 1, 0, none⟩ = some (.string ⟨#[86, 49]⟩) := by rw [cell_of_row _ _ 0 _ _ _ g1]; rfl
        have r1 : ((w4.setCell ⟨w.heap.size + 1, 0, none⟩ (.string ⟨#[86, 49]⟩)).setCell ⟨w.heap.size + 1, 1, none⟩ (.string ⟨#[]⟩)).cell? ⟨w.heap.size + 1, 1, none⟩ = some (.string ⟨#[]⟩) := by rw [cell_of_row _ _ 1 _ _ _ g1]; rfl
        have RR0 := Lib.hid r0
        have RR1 := Lib.hid r1
        have BZ : Hid (Below w.heap.size w ((w4.setCell ⟨w.heap.size + 1, 0, none⟩ (.string ⟨#[86, 49]⟩)).setCell ⟨w.heap.size + 1, 1, none⟩ (.string ⟨#[]⟩))) := Lib.hid (by
          rw [setCell_eq_setRow _ _ 1 _ _ _ _ g0, setCell_eq_setRow _ _ 0 _ _ _ _ q3]
          exact below_setRow (below_setRow HB3.out (by omega) _) (by omega) _)
        clear r0 r1 g0 g1 q3
        go_wp2_with fail
        refine bodyPost_ret (by simp [results, Try.results21, go_sem, RR0.out, RR1.out]; try rfl) rfl ?_
        exact ⟨by rw [HN.out.1, HN.out.2], BZ.out⟩
      · have hne : ((2 : Int) == (x : Int)) = false := by rw [beq_eq_false_iff_ne]; omega
        have HB3 := Lib.hid (HB.out.alloc HB.out.size (.cells #[.int .i64 2, .bool false, .string ⟨#[86, 49]⟩, .slice none 0 0] 37))
        have HXX := Lib.hid hx2
        clear hx2 q2
        go_wp2_with fail
        go_roundg 0
        case measure => omega
        case rel => exact ⟨1, rfl, rfl, Lib.hid (fun _ => HXX.out), HB3⟩
end Go.Proofs.Ytpilccalgegadaa
