/- Layer 17, the examples: whether a symbol's version fits. -/
import Derived.Test.YtpilccalgegadaaBindWord
namespace Go.Proofs.Ytpilccalgegadaa
open Go.RowKit
set_option linter.unusedVariables false
set_option linter.unusedSimpArgs false

set_option maxRecDepth 100000 in
set_option maxHeartbeats 8000000 in
theorem suits_1 (C : Array Value) (h54 : C.size = 54) (hone : C.all (·.oneCell') = true) (wa : Option Addr) (wl wc : Nat) (w : World) (h46 : C[46]? = some (.bool false)) (h47 : C[47]? = some (.slice wa wl wc)) :
    Calls Try.prog 13 #[.agg C, .int .i64 1, .agg #[.string ⟨#[102]⟩, .string ⟨#[86, 57]⟩, .string ⟨#[]⟩]] w fun e w' => e = .returned (.bool true) ∧ Below w.heap.size w w' := by
  have B1 : Hid (Below w.heap.size w ((w.alloc (.cells C 55)).alloc (.cells #[.string ⟨#[102]⟩, .string ⟨#[86, 57]⟩, .string ⟨#[]⟩] 25))) := Lib.hid (((Below.refl _ _).alloc (Nat.le_refl _) _).alloc (by simp) _)
  have HI : Hid ((Try.prog.info? 55).map (·.size) = some C.size) := Lib.hid (by rw [h54]; kernel_rfl)
  have HX : Hid (∀ wx, Below ((w.alloc (.cells C 55)).alloc (.cells #[.string ⟨#[102]⟩, .string ⟨#[86, 57]⟩, .string ⟨#[]⟩] 25)).heap.size ((w.alloc (.cells C 55)).alloc (.cells #[.string ⟨#[102]⟩, .string ⟨#[86, 57]⟩, .string ⟨#[]⟩] 25)) wx → wx.heap[w.heap.size]? = some (.cells C 55) ∧ wx.cell? ⟨w.heap.size + 1, 1, none⟩ = some (.string ⟨#[86, 57]⟩)) := Lib.hid (fun wx hb => by
    have e0 : ((w.alloc (.cells C 55)).alloc (.cells #[.string ⟨#[102]⟩, .string ⟨#[86, 57]⟩, .string ⟨#[]⟩] 25)).heap[w.heap.size]? = some (.cells C 55) := (heap_alloc_old _ _ (by simp)).trans (heap_alloc_new _ _)
    have e1 : ((w.alloc (.cells C 55)).alloc (.cells #[.string ⟨#[102]⟩, .string ⟨#[86, 57]⟩, .string ⟨#[]⟩] 25)).heap[w.heap.size + 1]? = some (.cells #[.string ⟨#[102]⟩, .string ⟨#[86, 57]⟩, .string ⟨#[]⟩] 25) := by
      have := heap_alloc_new (w.alloc (.cells C 55)) (.cells #[.string ⟨#[102]⟩, .string ⟨#[86, 57]⟩, .string ⟨#[]⟩] 25)
      simpa using this
    exact ⟨(hb.block _ (lt_of_block e0)).trans e0, by rw [cell_of_row _ _ 1 _ _ _ ((hb.block _ (lt_of_block e1)).trans e1)]; rfl⟩)
  have HW := Lib.hid (fun (wx : World) (hb : Below w.heap.size w wx) => word_ex C h54 false wa wl wc 0 wx h46 h47 (fun h => by cases h))
  clear h46 h47
  have K0 := Lib.hid (HX.out _ (Below.refl _ _)).1
  go_enter Try.func13, Try.ntmps13
  go_wp2_with (refine wpList_load_row rfl 55 _ rfl w.heap.size rfl 55 C (0, 0) _ K0.out Try.underlying55 rfl HI.out ?_)
  refine (HW.out _ B1.out).mono ?_
  rintro e w4 ⟨rfl, hb4⟩
  have B4 := Lib.hid hb4
  have BW4 := Lib.hid (bstep B1.out hb4)
  obtain ⟨k1, k2⟩ := HX.out _ hb4
  have K1 := Lib.hid k1
  clear hb4 k1 K0
  go_wp2_with fail
  go_ret
  exact ⟨rfl, BW4.out⟩

set_option maxRecDepth 100000 in
set_option maxHeartbeats 8000000 in
theorem suits_2 (C : Array Value) (h54 : C.size = 54) (hone : C.all (·.oneCell') = true) (wa : Option Addr) (wl wc : Nat) (w : World) (h46 : C[46]? = some (.bool true)) (h47 : C[47]? = some (.slice wa wl wc)) (hw : wl = 2 ∧ ∃ b, wa = some ⟨b, 0, none⟩ ∧ b < w.heap.size ∧ w.cell? ⟨b, 1, none⟩ = some (.int .i64 2)) (db dc : Nat) (h48 : C[48]? = some (.slice (some ⟨db, 0, none⟩) 1 dc)) (h49 : C[49]? = some (.slice none 0 0)) (hd : w.heap[db]? = some (.cells #[.int .i64 2, .bool false, .string ⟨#[86, 49]⟩, .slice none 0 0] 37)) :
    Calls Try.prog 13 #[.agg C, .int .i64 1, .agg #[.string ⟨#[102]⟩, .string ⟨#[86, 49]⟩, .string ⟨#[]⟩]] w fun e w' => e = .returned (.bool true) ∧ Below w.heap.size w w' := by
  have B1 : Hid (Below w.heap.size w ((w.alloc (.cells C 55)).alloc (.cells #[.string ⟨#[102]⟩, .string ⟨#[86, 49]⟩, .string ⟨#[]⟩] 25))) := Lib.hid (((Below.refl _ _).alloc (Nat.le_refl _) _).alloc (by simp) _)
  have HI : Hid ((Try.prog.info? 55).map (·.size) = some C.size) := Lib.hid (by rw [h54]; kernel_rfl)
  have HX : Hid (∀ wx, Below ((w.alloc (.cells C 55)).alloc (.cells #[.string ⟨#[102]⟩, .string ⟨#[86, 49]⟩, .string ⟨#[]⟩] 25)).heap.size ((w.alloc (.cells C 55)).alloc (.cells #[.string ⟨#[102]⟩, .string ⟨#[86, 49]⟩, .string ⟨#[]⟩] 25)) wx → wx.heap[w.heap.size]? = some (.cells C 55) ∧ wx.cell? ⟨w.heap.size + 1, 1, none⟩ = some (.string ⟨#[86, 49]⟩)) := Lib.hid (fun wx hb => by
    have e0 : ((w.alloc (.cells C 55)).alloc (.cells #[.string ⟨#[102]⟩, .string ⟨#[86, 49]⟩, .string ⟨#[]⟩] 25)).heap[w.heap.size]? = some (.cells C 55) := (heap_alloc_old _ _ (by simp)).trans (heap_alloc_new _ _)
    have e1 : ((w.alloc (.cells C 55)).alloc (.cells #[.string ⟨#[102]⟩, .string ⟨#[86, 49]⟩, .string ⟨#[]⟩] 25)).heap[w.heap.size + 1]? = some (.cells #[.string ⟨#[102]⟩, .string ⟨#[86, 49]⟩, .string ⟨#[]⟩] 25) := by
      have := heap_alloc_new (w.alloc (.cells C 55)) (.cells #[.string ⟨#[102]⟩, .string ⟨#[86, 49]⟩, .string ⟨#[]⟩] 25)
      simpa using this
    exact ⟨(hb.block _ (lt_of_block e0)).trans e0, by rw [cell_of_row _ _ 1 _ _ _ ((hb.block _ (lt_of_block e1)).trans e1)]; rfl⟩)
  have HW := Lib.hid (fun (wx : World) (hb : Below w.heap.size w wx) => word_ex C h54 true wa wl wc 2 wx h46 h47 (fun _ => by
    obtain ⟨h2, b, e, hlt, hc⟩ := hw
    exact ⟨h2, b, e, Nat.lt_of_lt_of_le hlt hb.size, by rw [hb.cell (p := ⟨b, 1, none⟩) hlt]; exact hc⟩))
  have HV := Lib.hid (fun (wx : World) (hb : Below w.heap.size w wx) => by
    have h := version_ex C h54 db dc 2 wx h48 h49 ((hb.block _ (lt_of_block hd)).trans hd) (by decide)
    rw [if_pos rfl, show decide (2 = 2) = true from rfl] at h
    exact h)
  clear hw h48 h49 hd
  clear h46 h47
  have K0 := Lib.hid (HX.out _ (Below.refl _ _)).1
  go_enter Try.func13, Try.ntmps13
  go_wp2_with (refine wpList_load_row rfl 55 _ rfl w.heap.size rfl 55 C (0, 0) _ K0.out Try.underlying55 rfl HI.out ?_)
  refine (HW.out _ B1.out).mono ?_
  rintro e w4 ⟨rfl, hb4⟩
  have B4 := Lib.hid hb4
  have BW4 := Lib.hid (bstep B1.out hb4)
  obtain ⟨k1, k2⟩ := HX.out _ hb4
  have K1 := Lib.hid k1
  clear hb4 k1 K0
  go_wp2_with (refine wpList_load_row rfl 55 _ rfl w.heap.size rfl 55 C (0, 0) _ K1.out Try.underlying55 rfl HI.out ?_)
  refine (HV.out _ BW4.out).mono ?_
  rintro e w5 ⟨rfl, hb5⟩
  have B5 := Lib.hid (bstep BW4.out hb5)
  obtain ⟨-, k3⟩ := HX.out _ (bstep B4.out hb5)
  have hal := fun (p : Addr) (hp : p.block < w5.heap.size) => ((Below.refl w5.heap.size w5).alloc (Nat.le_refl _) (.cells #[.string ⟨#[86, 49]⟩, .string ⟨#[]⟩] 85)).cell hp
  have k4 := (hal ⟨w.heap.size + 1, 1, none⟩ (by simpa using World.block_lt_of_cell? _ _ k3)).trans k3
  clear hb5 k2 hal
  go_wp2_with fail
  go_ret
  exact ⟨rfl, B5.out.alloc B5.out.size _⟩

set_option maxRecDepth 100000 in
set_option maxHeartbeats 8000000 in
theorem suits_3 (C : Array Value) (h54 : C.size = 54) (hone : C.all (·.oneCell') = true) (wa : Option Addr) (wl wc : Nat) (w : World) (h46 : C[46]? = some (.bool true)) (h47 : C[47]? = some (.slice wa wl wc)) (hw : wl = 2 ∧ ∃ b, wa = some ⟨b, 0, none⟩ ∧ b < w.heap.size ∧ w.cell? ⟨b, 1, none⟩ = some (.int .i64 2)) (db dc : Nat) (h48 : C[48]? = some (.slice (some ⟨db, 0, none⟩) 1 dc)) (h49 : C[49]? = some (.slice none 0 0)) (hd : w.heap[db]? = some (.cells #[.int .i64 2, .bool false, .string ⟨#[86, 49]⟩, .slice none 0 0] 37)) :
    Calls Try.prog 13 #[.agg C, .int .i64 1, .agg #[.string ⟨#[102]⟩, .string ⟨#[86, 57]⟩, .string ⟨#[]⟩]] w fun e w' => e = .returned (.bool false) ∧ Below w.heap.size w w' := by
  have B1 : Hid (Below w.heap.size w ((w.alloc (.cells C 55)).alloc (.cells #[.string ⟨#[102]⟩, .string ⟨#[86, 57]⟩, .string ⟨#[]⟩] 25))) := Lib.hid (((Below.refl _ _).alloc (Nat.le_refl _) _).alloc (by simp) _)
  have HI : Hid ((Try.prog.info? 55).map (·.size) = some C.size) := Lib.hid (by rw [h54]; kernel_rfl)
  have HX : Hid (∀ wx, Below ((w.alloc (.cells C 55)).alloc (.cells #[.string ⟨#[102]⟩, .string ⟨#[86, 57]⟩, .string ⟨#[]⟩] 25)).heap.size ((w.alloc (.cells C 55)).alloc (.cells #[.string ⟨#[102]⟩, .string ⟨#[86, 57]⟩, .string ⟨#[]⟩] 25)) wx → wx.heap[w.heap.size]? = some (.cells C 55) ∧ wx.cell? ⟨w.heap.size + 1, 1, none⟩ = some (.string ⟨#[86, 57]⟩)) := Lib.hid (fun wx hb => by
    have e0 : ((w.alloc (.cells C 55)).alloc (.cells #[.string ⟨#[102]⟩, .string ⟨#[86, 57]⟩, .string ⟨#[]⟩] 25)).heap[w.heap.size]? = some (.cells C 55) := (heap_alloc_old _ _ (by simp)).trans (heap_alloc_new _ _)
    have e1 : ((w.alloc (.cells C 55)).alloc (.cells #[.string ⟨#[102]⟩, .string ⟨#[86, 57]⟩, .string ⟨#[]⟩] 25)).heap[w.heap.size + 1]? = some (.cells #[.string ⟨#[102]⟩, .string ⟨#[86, 57]⟩, .string ⟨#[]⟩] 25) := by
      have := heap_alloc_new (w.alloc (.cells C 55)) (.cells #[.string ⟨#[102]⟩, .string ⟨#[86, 57]⟩, .string ⟨#[]⟩] 25)
      simpa using this
    exact ⟨(hb.block _ (lt_of_block e0)).trans e0, by rw [cell_of_row _ _ 1 _ _ _ ((hb.block _ (lt_of_block e1)).trans e1)]; rfl⟩)
  have HW := Lib.hid (fun (wx : World) (hb : Below w.heap.size w wx) => word_ex C h54 true wa wl wc 2 wx h46 h47 (fun _ => by
    obtain ⟨h2, b, e, hlt, hc⟩ := hw
    exact ⟨h2, b, e, Nat.lt_of_lt_of_le hlt hb.size, by rw [hb.cell (p := ⟨b, 1, none⟩) hlt]; exact hc⟩))
  have HV := Lib.hid (fun (wx : World) (hb : Below w.heap.size w wx) => by
    have h := version_ex C h54 db dc 2 wx h48 h49 ((hb.block _ (lt_of_block hd)).trans hd) (by decide)
    rw [if_pos rfl, show decide (2 = 2) = true from rfl] at h
    exact h)
  clear hw h48 h49 hd
  clear h46 h47
  have K0 := Lib.hid (HX.out _ (Below.refl _ _)).1
  go_enter Try.func13, Try.ntmps13
  go_wp2_with (refine wpList_load_row rfl 55 _ rfl w.heap.size rfl 55 C (0, 0) _ K0.out Try.underlying55 rfl HI.out ?_)
  refine (HW.out _ B1.out).mono ?_
  rintro e w4 ⟨rfl, hb4⟩
  have B4 := Lib.hid hb4
  have BW4 := Lib.hid (bstep B1.out hb4)
  obtain ⟨k1, k2⟩ := HX.out _ hb4
  have K1 := Lib.hid k1
  clear hb4 k1 K0
  go_wp2_with (refine wpList_load_row rfl 55 _ rfl w.heap.size rfl 55 C (0, 0) _ K1.out Try.underlying55 rfl HI.out ?_)
  refine (HV.out _ BW4.out).mono ?_
  rintro e w5 ⟨rfl, hb5⟩
  have B5 := Lib.hid (bstep BW4.out hb5)
  obtain ⟨-, k3⟩ := HX.out _ (bstep B4.out hb5)
  have hal := fun (p : Addr) (hp : p.block < w5.heap.size) => ((Below.refl w5.heap.size w5).alloc (Nat.le_refl _) (.cells #[.string ⟨#[86, 49]⟩, .string ⟨#[]⟩] 85)).cell hp
  have k4 := (hal ⟨w.heap.size + 1, 1, none⟩ (by simpa using World.block_lt_of_cell? _ _ k3)).trans k3
  clear hb5 k2 hal
  go_wp2_with fail
  go_ret
  exact ⟨rfl, B5.out.alloc B5.out.size _⟩

set_option maxRecDepth 100000 in
set_option maxHeartbeats 8000000 in
theorem suits_4 (C : Array Value) (h54 : C.size = 54) (hone : C.all (·.oneCell') = true) (wa : Option Addr) (wl wc : Nat) (w : World) (h46 : C[46]? = some (.bool true)) (h47 : C[47]? = some (.slice wa wl wc)) (hw : wl = 2 ∧ ∃ b, wa = some ⟨b, 0, none⟩ ∧ b < w.heap.size ∧ w.cell? ⟨b, 1, none⟩ = some (.int .i64 32770)) (db dc : Nat) (h48 : C[48]? = some (.slice (some ⟨db, 0, none⟩) 1 dc)) (h49 : C[49]? = some (.slice none 0 0)) (hd : w.heap[db]? = some (.cells #[.int .i64 2, .bool false, .string ⟨#[86, 49]⟩, .slice none 0 0] 37)) :
    Calls Try.prog 13 #[.agg C, .int .i64 1, .agg #[.string ⟨#[102]⟩, .string ⟨#[]⟩, .string ⟨#[]⟩]] w fun e w' => e = .returned (.bool false) ∧ Below w.heap.size w w' := by
  have B1 : Hid (Below w.heap.size w ((w.alloc (.cells C 55)).alloc (.cells #[.string ⟨#[102]⟩, .string ⟨#[]⟩, .string ⟨#[]⟩] 25))) := Lib.hid (((Below.refl _ _).alloc (Nat.le_refl _) _).alloc (by simp) _)
  have HI : Hid ((Try.prog.info? 55).map (·.size) = some C.size) := Lib.hid (by rw [h54]; kernel_rfl)
  have HX : Hid (∀ wx, Below ((w.alloc (.cells C 55)).alloc (.cells #[.string ⟨#[102]⟩, .string ⟨#[]⟩, .string ⟨#[]⟩] 25)).heap.size ((w.alloc (.cells C 55)).alloc (.cells #[.string ⟨#[102]⟩, .string ⟨#[]⟩, .string ⟨#[]⟩] 25)) wx → wx.heap[w.heap.size]? = some (.cells C 55) ∧ wx.cell? ⟨w.heap.size + 1, 1, none⟩ = some (.string ⟨#[]⟩)) := Lib.hid (fun wx hb => by
    have e0 : ((w.alloc (.cells C 55)).alloc (.cells #[.string ⟨#[102]⟩, .string ⟨#[]⟩, .string ⟨#[]⟩] 25)).heap[w.heap.size]? = some (.cells C 55) := (heap_alloc_old _ _ (by simp)).trans (heap_alloc_new _ _)
    have e1 : ((w.alloc (.cells C 55)).alloc (.cells #[.string ⟨#[102]⟩, .string ⟨#[]⟩, .string ⟨#[]⟩] 25)).heap[w.heap.size + 1]? = some (.cells #[.string ⟨#[102]⟩, .string ⟨#[]⟩, .string ⟨#[]⟩] 25) := by
      have := heap_alloc_new (w.alloc (.cells C 55)) (.cells #[.string ⟨#[102]⟩, .string ⟨#[]⟩, .string ⟨#[]⟩] 25)
      simpa using this
    exact ⟨(hb.block _ (lt_of_block e0)).trans e0, by rw [cell_of_row _ _ 1 _ _ _ ((hb.block _ (lt_of_block e1)).trans e1)]; rfl⟩)
  have HW := Lib.hid (fun (wx : World) (hb : Below w.heap.size w wx) => word_ex C h54 true wa wl wc 32770 wx h46 h47 (fun _ => by
    obtain ⟨h2, b, e, hlt, hc⟩ := hw
    exact ⟨h2, b, e, Nat.lt_of_lt_of_le hlt hb.size, by rw [hb.cell (p := ⟨b, 1, none⟩) hlt]; exact hc⟩))
  clear hw h48 h49 hd
  clear h46 h47
  have K0 := Lib.hid (HX.out _ (Below.refl _ _)).1
  go_enter Try.func13, Try.ntmps13
  go_wp2_with (refine wpList_load_row rfl 55 _ rfl w.heap.size rfl 55 C (0, 0) _ K0.out Try.underlying55 rfl HI.out ?_)
  refine (HW.out _ B1.out).mono ?_
  rintro e w4 ⟨rfl, hb4⟩
  have B4 := Lib.hid hb4
  have BW4 := Lib.hid (bstep B1.out hb4)
  obtain ⟨k1, k2⟩ := HX.out _ hb4
  have K1 := Lib.hid k1
  clear hb4 k1 K0
  go_wp2_with fail
  go_ret
  exact ⟨rfl, BW4.out⟩

set_option maxRecDepth 100000 in
set_option maxHeartbeats 8000000 in
theorem suits_5 (C : Array Value) (h54 : C.size = 54) (hone : C.all (·.oneCell') = true) (wa : Option Addr) (wl wc : Nat) (w : World) (h46 : C[46]? = some (.bool true)) (h47 : C[47]? = some (.slice wa wl wc)) (hw : wl = 2 ∧ ∃ b, wa = some ⟨b, 0, none⟩ ∧ b < w.heap.size ∧ w.cell? ⟨b, 1, none⟩ = some (.int .i64 1)) (db dc : Nat) (h48 : C[48]? = some (.slice (some ⟨db, 0, none⟩) 1 dc)) (h49 : C[49]? = some (.slice none 0 0)) (hd : w.heap[db]? = some (.cells #[.int .i64 2, .bool false, .string ⟨#[86, 49]⟩, .slice none 0 0] 37)) :
    Calls Try.prog 13 #[.agg C, .int .i64 1, .agg #[.string ⟨#[102]⟩, .string ⟨#[86, 57]⟩, .string ⟨#[]⟩]] w fun e w' => e = .returned (.bool true) ∧ Below w.heap.size w w' := by
  have B1 : Hid (Below w.heap.size w ((w.alloc (.cells C 55)).alloc (.cells #[.string ⟨#[102]⟩, .string ⟨#[86, 57]⟩, .string ⟨#[]⟩] 25))) := Lib.hid (((Below.refl _ _).alloc (Nat.le_refl _) _).alloc (by simp) _)
  have HI : Hid ((Try.prog.info? 55).map (·.size) = some C.size) := Lib.hid (by rw [h54]; kernel_rfl)
  have HX : Hid (∀ wx, Below ((w.alloc (.cells C 55)).alloc (.cells #[.string ⟨#[102]⟩, .string ⟨#[86, 57]⟩, .string ⟨#[]⟩] 25)).heap.size ((w.alloc (.cells C 55)).alloc (.cells #[.string ⟨#[102]⟩, .string ⟨#[86, 57]⟩, .string ⟨#[]⟩] 25)) wx → wx.heap[w.heap.size]? = some (.cells C 55) ∧ wx.cell? ⟨w.heap.size + 1, 1, none⟩ = some (.string ⟨#[86, 57]⟩)) := Lib.hid (fun wx hb => by
    have e0 : ((w.alloc (.cells C 55)).alloc (.cells #[.string ⟨#[102]⟩, .string ⟨#[86, 57]⟩, .string ⟨#[]⟩] 25)).heap[w.heap.size]? = some (.cells C 55) := (heap_alloc_old _ _ (by simp)).trans (heap_alloc_new _ _)
    have e1 : ((w.alloc (.cells C 55)).alloc (.cells #[.string ⟨#[102]⟩, .string ⟨#[86, 57]⟩, .string ⟨#[]⟩] 25)).heap[w.heap.size + 1]? = some (.cells #[.string ⟨#[102]⟩, .string ⟨#[86, 57]⟩, .string ⟨#[]⟩] 25) := by
      have := heap_alloc_new (w.alloc (.cells C 55)) (.cells #[.string ⟨#[102]⟩, .string ⟨#[86, 57]⟩, .string ⟨#[]⟩] 25)
      simpa using this
    exact ⟨(hb.block _ (lt_of_block e0)).trans e0, by rw [cell_of_row _ _ 1 _ _ _ ((hb.block _ (lt_of_block e1)).trans e1)]; rfl⟩)
  have HW := Lib.hid (fun (wx : World) (hb : Below w.heap.size w wx) => word_ex C h54 true wa wl wc 1 wx h46 h47 (fun _ => by
    obtain ⟨h2, b, e, hlt, hc⟩ := hw
    exact ⟨h2, b, e, Nat.lt_of_lt_of_le hlt hb.size, by rw [hb.cell (p := ⟨b, 1, none⟩) hlt]; exact hc⟩))
  have HV := Lib.hid (fun (wx : World) (hb : Below w.heap.size w wx) => by
    have h := version_ex C h54 db dc 1 wx h48 h49 ((hb.block _ (lt_of_block hd)).trans hd) (by decide)
    rw [if_neg (by decide), show decide (1 = 2) = false from rfl] at h
    exact h)
  clear hw h48 h49 hd
  clear h46 h47
  have K0 := Lib.hid (HX.out _ (Below.refl _ _)).1
  go_enter Try.func13, Try.ntmps13
  go_wp2_with (refine wpList_load_row rfl 55 _ rfl w.heap.size rfl 55 C (0, 0) _ K0.out Try.underlying55 rfl HI.out ?_)
  refine (HW.out _ B1.out).mono ?_
  rintro e w4 ⟨rfl, hb4⟩
  have B4 := Lib.hid hb4
  have BW4 := Lib.hid (bstep B1.out hb4)
  obtain ⟨k1, k2⟩ := HX.out _ hb4
  have K1 := Lib.hid k1
  clear hb4 k1 K0
  go_wp2_with (refine wpList_load_row rfl 55 _ rfl w.heap.size rfl 55 C (0, 0) _ K1.out Try.underlying55 rfl HI.out ?_)
  refine (HV.out _ BW4.out).mono ?_
  rintro e w5 ⟨rfl, hb5⟩
  have B5 := Lib.hid (bstep BW4.out hb5)
  obtain ⟨-, k3⟩ := HX.out _ (bstep B4.out hb5)
  have hal := fun (p : Addr) (hp : p.block < w5.heap.size) => ((Below.refl w5.heap.size w5).alloc (Nat.le_refl _) (.cells #[.string ⟨#[]⟩, .string ⟨#[]⟩] 85)).cell hp
  have k4 := (hal ⟨w.heap.size + 1, 1, none⟩ (by simpa using World.block_lt_of_cell? _ _ k3)).trans k3
  clear hb5 k2 hal
  go_wp2_with fail
  go_ret
  exact ⟨rfl, B5.out.alloc B5.out.size _⟩

end Go.Proofs.Ytpilccalgegadaa
