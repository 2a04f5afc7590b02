/- Layer 12: the rows of some opcodes, told by literals. (Printed by gen-exec/rows.py.) -/
import Derived.Test.YtmnjkaimpejohaaGreatDoorDecRow
import Derived.Test.YtmnjkaimpejohaaGreatDoorTk
import Derived.Deep.DeepCutAuto
namespace Go.Proofs.YtmnjkaimpejohaaGreatDoor
open Go.RowKit
set_option linter.unusedVariables false
set_option linter.unusedSimpArgs false

set_option maxRecDepth 100000 in
set_option maxHeartbeats 8000000 in
theorem grouped_137_0_8 (w : World) : Calls Tryz.prog 65 #[.agg #[.bool false, .int .u8 137, .int .u8 0, .int .u8 8]] w fun e w' => e = .returned (.bool false) ∧ Below w.heap.size w w' := by
  go_enter Tryz.func65, Tryz.ntmps65
  go_wp2_with fail
  go_ret
  exact ⟨rfl, by go_grown⟩

set_option maxRecDepth 100000 in
set_option maxHeartbeats 8000000 in
theorem upper_137_0_8 (w : World) : Calls Tryz.prog 89 #[.agg #[.bool false, .int .u8 137, .int .u8 0, .int .u8 8]] w fun e w' => e = .returned (.agg #[.int .u8 8, .int .u8 0, .int .u8 2, .int .u8 0, .int .u8 1, .int .u8 0, .int .u8 0, .int .u8 0]) ∧ Below w.heap.size w w' := by
  go_enter Tryz.func89, Tryz.ntmps89
  have HA : Hid (∀ (k : Nat) wx, Calls Tryz.prog 96 #[.agg #[.bool false, .int .u8 137, .int .u8 0, .int .u8 8], .int .u8 (k : Int)] wx fun e w' => e = .returned (partV (sizedF 137 k)) ∧ Below wx.heap.size wx w') := Lib.hid (fun k wx => sized_any false 137 0 8 k wx (by decide))
  have XA : Hid (((w.alloc (.cells #[.bool false, .int .u8 137, .int .u8 0, .int .u8 8] 139)).alloc (.cells #[.int .u8 0, .int .u8 0, .int .u8 0, .int .u8 0, .int .u8 0, .int .u8 0, .int .u8 0, .int .u8 0] 104)).heap[w.heap.size]? = some (.cells #[.bool false, .int .u8 137, .int .u8 0, .int .u8 8] 139)) := Lib.hid (by rw [heap_alloc_old _ _ (by simp)]; exact heap_alloc_new _ _)
  have XB : Hid (((w.alloc (.cells #[.bool false, .int .u8 137, .int .u8 0, .int .u8 8] 139)).alloc (.cells #[.int .u8 0, .int .u8 0, .int .u8 0, .int .u8 0, .int .u8 0, .int .u8 0, .int .u8 0, .int .u8 0] 104)).heap[w.heap.size + 1]? = some (.cells #[.int .u8 0, .int .u8 0, .int .u8 0, .int .u8 0, .int .u8 0, .int .u8 0, .int .u8 0, .int .u8 0] 104)) := Lib.hid (by have := heap_alloc_new (w.alloc (.cells #[.bool false, .int .u8 137, .int .u8 0, .int .u8 8] 139)) (.cells #[.int .u8 0, .int .u8 0, .int .u8 0, .int .u8 0, .int .u8 0, .int .u8 0, .int .u8 0, .int .u8 0] 104); rwa [World.size_alloc] at this)
  have B0 : Hid (Below w.heap.size w ((w.alloc (.cells #[.bool false, .int .u8 137, .int .u8 0, .int .u8 8] 139)).alloc (.cells #[.int .u8 0, .int .u8 0, .int .u8 0, .int .u8 0, .int .u8 0, .int .u8 0, .int .u8 0, .int .u8 0] 104))) := Lib.hid (by go_grown)
  go_upto_region 7 with fail
  obtain ⟨w0, hw0⟩ : ∃ w0, ((w.alloc (.cells #[.bool false, .int .u8 137, .int .u8 0, .int .u8 8] 139)).alloc (.cells #[.int .u8 0, .int .u8 0, .int .u8 0, .int .u8 0, .int .u8 0, .int .u8 0, .int .u8 0, .int .u8 0] 104)) = w0 := ⟨_, rfl⟩
  obtain ⟨g1, hg1⟩ : ∃ g1, w.heap.size = g1 := ⟨_, rfl⟩
  obtain ⟨g2, hg2⟩ : ∃ g2, w.heap.size + 1 = g2 := ⟨_, rfl⟩
  rw [hw0] at XA XB B0 ⊢
  rw [hg1] at XA
  rw [hg2] at XB
  try rw [hg2]
  try rw [hg1]
  have HX : Hid (∀ wx, Below w0.heap.size w0 wx → wx.heap[g2]? = some (.cells #[.int .u8 0, .int .u8 0, .int .u8 0, .int .u8 0, .int .u8 0, .int .u8 0, .int .u8 0, .int .u8 0] 104)) := Lib.hid (fun wx hb => (hb.block _ (lt_of_block XB.out)).trans XB.out)
  have KQ : Hid (∀ wx, Below g2 w0 wx → Below g2 w0 wx ∧ wx.cell? ⟨g1, 0, none⟩ = some (.bool false) ∧ wx.cell? ⟨g1, 1, none⟩ = some (.int .u8 137) ∧ wx.cell? ⟨g1, 2, none⟩ = some (.int .u8 0) ∧ wx.cell? ⟨g1, 3, none⟩ = some (.int .u8 8)) := Lib.hid (fun wx hb => by
    have h := (hb.block _ (by omega)).trans XA.out
    exact ⟨hb, by rw [cell_of_row _ _ 0 _ _ _ h]; rfl, by rw [cell_of_row _ _ 1 _ _ _ h]; rfl, by rw [cell_of_row _ _ 2 _ _ _ h]; rfl, by rw [cell_of_row _ _ 3 _ _ _ h]; rfl⟩)
  refine wp_region_held_drew (S := fun wx => Below g2 w0 wx) (by kernel_rfl) ((Below.refl _ _).drew) (fun hHeld => ?_)
  first
    | (refine tkw 0 ?_ rfl ?_ ?_
       rotate_left
       · intro wx hSw
         obtain ⟨s0, s1, s2, s3, s4⟩ := KQ.out wx hSw
         (first | (go_simp; rfl) | go_simp | rfl))
    | refine tku 0 rfl ?_
  first
    | (refine tkw 2 ?_ rfl ?_ ?_
       rotate_left
       · intro wx hSw
         obtain ⟨s0, s1, s2, s3, s4⟩ := KQ.out wx hSw
         (first | (go_simp; rfl) | go_simp | rfl))
    | refine tku 2 rfl ?_
  refine wpAnyH_ready (rs := [1]) (by kernel_rfl) (by simp) ?_
  refine AllReadyH.cons rfl (fun K hK => ?_) AllReadyH.nil
  go_simp
  refine (HA.out 2 _).mono ?_
  rintro e' w5 ⟨rfl, b5⟩
  have B5 : Hid (Below w0.heap.size w0 w5) := Lib.hid (bstep (Below.refl _ _).drew b5)
  unfold partV sizedF
  refine hK.out _ _ (B5.out.mono (Nat.le_of_lt (lt_of_block XB.out))) (fun hHeld => ?_)
  clear hK K
  try simp only [List.getElem_toArray, List.getElem_cons_zero, List.getElem_cons_succ, Act.put, List.setIfInBounds_toArray, List.set_cons_zero, List.set_cons_succ, Array.toArray_toList]
  refine wpAnyH_ready (rs := [3]) (by kernel_rfl) (by simp) ?_
  refine AllReadyH.cons rfl (fun K hK => ?_) AllReadyH.nil
  go_simp
  refine (HA.out 1 _).mono ?_
  rintro e' w6 ⟨rfl, b6⟩
  have B6 : Hid (Below w0.heap.size w0 w6) := Lib.hid (bstep B5.out b6)
  unfold partV sizedF
  refine hK.out _ _ (B6.out.mono (Nat.le_of_lt (lt_of_block XB.out))) (fun hHeld => ?_)
  clear hK K
  try simp only [List.getElem_toArray, List.getElem_cons_zero, List.getElem_cons_succ, Act.put, List.setIfInBounds_toArray, List.set_cons_zero, List.set_cons_succ, Array.toArray_toList]
  first
    | (refine tkw 4 ?_ rfl ?_ ?_
       rotate_left
       · intro wx hSw
         obtain ⟨s0, s1, s2, s3, s4⟩ := KQ.out wx hSw
         (first | (go_simp; rfl) | go_simp | rfl))
    | refine tku 4 rfl ?_
  refine wpAnyH_ready (rs := [5]) (by kernel_rfl) (by simp) ?_
  refine AllReadyH.cons rfl (fun K hK => ?_) AllReadyH.nil
  go_simp
  have h6 := HX.out _ B6.out
  have c0 : w6.cell? ⟨g2, 0, none⟩ = some (.int .u8 0) := by rw [cell_of_row _ _ 0 _ _ _ h6]; rfl
  have f0 : w6.frozen? ⟨g2, 0, none⟩ = false := frozen_of_row _ _ _ _ _ h6
  have c1 : w6.cell? ⟨g2, 1, none⟩ = some (.int .u8 0) := by rw [cell_of_row _ _ 1 _ _ _ h6]; rfl
  have f1 : w6.frozen? ⟨g2, 1, none⟩ = false := frozen_of_row _ _ _ _ _ h6
  have c2 : w6.cell? ⟨g2, 2, none⟩ = some (.int .u8 0) := by rw [cell_of_row _ _ 2 _ _ _ h6]; rfl
  have f2 : w6.frozen? ⟨g2, 2, none⟩ = false := frozen_of_row _ _ _ _ _ h6
  have c3 : w6.cell? ⟨g2, 3, none⟩ = some (.int .u8 0) := by rw [cell_of_row _ _ 3 _ _ _ h6]; rfl
  have f3 : w6.frozen? ⟨g2, 3, none⟩ = false := frozen_of_row _ _ _ _ _ h6
  have c4 : w6.cell? ⟨g2, 4, none⟩ = some (.int .u8 0) := by rw [cell_of_row _ _ 4 _ _ _ h6]; rfl
  have f4 : w6.frozen? ⟨g2, 4, none⟩ = false := frozen_of_row _ _ _ _ _ h6
  have c5 : w6.cell? ⟨g2, 5, none⟩ = some (.int .u8 0) := by rw [cell_of_row _ _ 5 _ _ _ h6]; rfl
  have f5 : w6.frozen? ⟨g2, 5, none⟩ = false := frozen_of_row _ _ _ _ _ h6
  have c6 : w6.cell? ⟨g2, 6, none⟩ = some (.int .u8 0) := by rw [cell_of_row _ _ 6 _ _ _ h6]; rfl
  have f6 : w6.frozen? ⟨g2, 6, none⟩ = false := frozen_of_row _ _ _ _ _ h6
  have c7 : w6.cell? ⟨g2, 7, none⟩ = some (.int .u8 0) := by rw [cell_of_row _ _ 7 _ _ _ h6]; rfl
  have f7 : w6.frozen? ⟨g2, 7, none⟩ = false := frozen_of_row _ _ _ _ _ h6
  go_simp
  have H6 := Lib.hid h6
  rw [eight_stores h6]
  clear h6 c0 c1 c2 c3 c4 c5 c6 c7 f0 f1 f2 f3 f4 f5 f6 f7
  refine hK.out _ _ (below_setRow (B6.out.mono (Nat.le_of_lt (lt_of_block XB.out))) (Nat.le_refl _) _) (fun hHeld => ?_)
  clear hK K
  try simp only [List.getElem_toArray, List.getElem_cons_zero, List.getElem_cons_succ, Act.put, List.setIfInBounds_toArray, List.set_cons_zero, List.set_cons_succ, Array.toArray_toList]
  refine wpAnyH_done (by kernel_rfl) ?_ _
  have BF := Lib.hid (B0.out.trans (B6.out.mono B0.out.size))
  go_wp2_with fail
  refine bodyPost_ret_by (results_cell_row Tryz.results89 _ _ g2 104 #[.int .u8 8, .int .u8 0, .int .u8 2, .int .u8 0, .int .u8 1, .int .u8 0, .int .u8 0, .int .u8 0] (0, 0) _ rfl (setRow_heap _ _ _ _ _ _ H6.out) Tryz.underlying104 rfl (by kernel_rfl)) (by rfl) ?_
  exact ⟨rfl, below_setRow BF.out (by omega) _⟩

set_option maxRecDepth 100000 in
set_option maxHeartbeats 8000000 in
theorem orow_137_0_8 (w : World) : Calls Tryz.prog 66 #[.agg #[.bool false, .int .u8 137, .int .u8 0, .int .u8 8]] w fun e w' => e = .returned (.tuple #[.agg #[.int .u8 8, .int .u8 0, .int .u8 2, .int .u8 0, .int .u8 1, .int .u8 0, .int .u8 0, .int .u8 0], .bool true]) ∧ Below w.heap.size w w' := by
  go_enter Tryz.func66, Tryz.ntmps66
  have XW : Hid ((((w.alloc (.cells #[.bool false, .int .u8 137, .int .u8 0, .int .u8 8] 139)).alloc (.cells #[.int .u8 0, .int .u8 0, .int .u8 0, .int .u8 0, .int .u8 0, .int .u8 0, .int .u8 0, .int .u8 0] 104)).alloc (.cells #[.int .u8 0, .int .u8 0, .int .u8 0, .int .u8 0, .int .u8 0, .int .u8 0, .int .u8 0, .int .u8 0] 104)).heap[w.heap.size]? = some (.cells #[.bool false, .int .u8 137, .int .u8 0, .int .u8 8] 139) ∧ (((w.alloc (.cells #[.bool false, .int .u8 137, .int .u8 0, .int .u8 8] 139)).alloc (.cells #[.int .u8 0, .int .u8 0, .int .u8 0, .int .u8 0, .int .u8 0, .int .u8 0, .int .u8 0, .int .u8 0] 104)).alloc (.cells #[.int .u8 0, .int .u8 0, .int .u8 0, .int .u8 0, .int .u8 0, .int .u8 0, .int .u8 0, .int .u8 0] 104)).heap[w.heap.size + 1]? = some (.cells #[.int .u8 0, .int .u8 0, .int .u8 0, .int .u8 0, .int .u8 0, .int .u8 0, .int .u8 0, .int .u8 0] 104) ∧ (((w.alloc (.cells #[.bool false, .int .u8 137, .int .u8 0, .int .u8 8] 139)).alloc (.cells #[.int .u8 0, .int .u8 0, .int .u8 0, .int .u8 0, .int .u8 0, .int .u8 0, .int .u8 0, .int .u8 0] 104)).alloc (.cells #[.int .u8 0, .int .u8 0, .int .u8 0, .int .u8 0, .int .u8 0, .int .u8 0, .int .u8 0, .int .u8 0] 104)).heap[w.heap.size + 2]? = some (.cells #[.int .u8 0, .int .u8 0, .int .u8 0, .int .u8 0, .int .u8 0, .int .u8 0, .int .u8 0, .int .u8 0] 104)) := Lib.hid (three_new _ _ _ _ _ _ _)
  have B0 : Hid (Below w.heap.size w (((w.alloc (.cells #[.bool false, .int .u8 137, .int .u8 0, .int .u8 8] 139)).alloc (.cells #[.int .u8 0, .int .u8 0, .int .u8 0, .int .u8 0, .int .u8 0, .int .u8 0, .int .u8 0, .int .u8 0] 104)).alloc (.cells #[.int .u8 0, .int .u8 0, .int .u8 0, .int .u8 0, .int .u8 0, .int .u8 0, .int .u8 0, .int .u8 0] 104))) := Lib.hid (by go_grown)
  have HI : Hid ((Tryz.prog.info? 104).map (·.size) = some ((#[.int .u8 8, .int .u8 0, .int .u8 2, .int .u8 0, .int .u8 1, .int .u8 0, .int .u8 0, .int .u8 0] : Array Value).size)) := Lib.hid (by kernel_rfl)
  have HO : Hid (((#[.int .u8 8, .int .u8 0, .int .u8 2, .int .u8 0, .int .u8 1, .int .u8 0, .int .u8 0, .int .u8 0] : Array Value)).all (·.oneCell') = true) := Lib.hid (by simp [Value.oneCell'])
  go_wp2_with fail
  obtain ⟨w0, hw0⟩ : ∃ w0, (((w.alloc (.cells #[.bool false, .int .u8 137, .int .u8 0, .int .u8 8] 139)).alloc (.cells #[.int .u8 0, .int .u8 0, .int .u8 0, .int .u8 0, .int .u8 0, .int .u8 0, .int .u8 0, .int .u8 0] 104)).alloc (.cells #[.int .u8 0, .int .u8 0, .int .u8 0, .int .u8 0, .int .u8 0, .int .u8 0, .int .u8 0, .int .u8 0] 104)) = w0 := ⟨_, rfl⟩
  obtain ⟨g1, hg1⟩ : ∃ g1, w.heap.size = g1 := ⟨_, rfl⟩
  obtain ⟨g2, hg2⟩ : ∃ g2, w.heap.size + 1 = g2 := ⟨_, rfl⟩
  obtain ⟨g3, hg3⟩ : ∃ g3, w.heap.size + 2 = g3 := ⟨_, rfl⟩
  have e3 : w.heap.size + 1 + 1 = g3 := hg3
  rw [hw0, hg3, hg2, hg1] at XW
  rw [hw0] at B0 ⊢
  try rw [e3]
  try rw [hg2]
  try rw [hg1]
  clear e3 hw0
  refine (grouped_137_0_8 _).mono ?_
  rintro e w1 ⟨rfl, b1⟩
  have Y1 := Lib.hid ((b1.block _ (lt_of_block XW.out.1)).trans XW.out.1)
  have s0 : w1.cell? ⟨g1, 0, none⟩ = some (.bool false) := by rw [cell_of_row _ _ 0 _ _ _ Y1.out]; rfl
  have s1 : w1.cell? ⟨g1, 1, none⟩ = some (.int .u8 137) := by rw [cell_of_row _ _ 1 _ _ _ Y1.out]; rfl
  have s2 : w1.cell? ⟨g1, 2, none⟩ = some (.int .u8 0) := by rw [cell_of_row _ _ 2 _ _ _ Y1.out]; rfl
  have s3 : w1.cell? ⟨g1, 3, none⟩ = some (.int .u8 8) := by rw [cell_of_row _ _ 3 _ _ _ Y1.out]; rfl
  go_wp2_with fail
  refine (upper_137_0_8 _).mono ?_
  rintro e w2 ⟨rfl, b2⟩
  have B2 : Hid (Below w0.heap.size w0 w2) := Lib.hid (bstep b1 b2)
  have Y3 := Lib.hid ((B2.out.block _ (lt_of_block XW.out.2.2)).trans XW.out.2.2)
  have Y2 := Lib.hid ((B2.out.block _ (lt_of_block XW.out.2.1)).trans XW.out.2.1)
  clear b1 b2 s0 s1 s2 s3
  go_upto_region 11 with (refine wpList_store_row rfl 104 _ _ rfl g3 #[.int .u8 8, .int .u8 0, .int .u8 2, .int .u8 0, .int .u8 1, .int .u8 0, .int .u8 0, .int .u8 0] rfl (by rfl) 104 _ Y3.out HI.out (by rfl) HO.out ?_)
  have B3 : Hid (Below w.heap.size w (w2.setRow g3 #[.int .u8 8, .int .u8 0, .int .u8 2, .int .u8 0, .int .u8 1, .int .u8 0, .int .u8 0, .int .u8 0])) := Lib.hid (below_setRow (B0.out.trans (B2.out.mono B0.out.size)) (by omega) _)
  have X3 : Hid ((w2.setRow g3 #[.int .u8 8, .int .u8 0, .int .u8 2, .int .u8 0, .int .u8 1, .int .u8 0, .int .u8 0, .int .u8 0]).heap[g3]? = some (.cells #[.int .u8 8, .int .u8 0, .int .u8 2, .int .u8 0, .int .u8 1, .int .u8 0, .int .u8 0, .int .u8 0] 104)) := Lib.hid (setRow_heap _ _ _ _ _ _ Y3.out)
  have X2 : Hid ((w2.setRow g3 #[.int .u8 8, .int .u8 0, .int .u8 2, .int .u8 0, .int .u8 1, .int .u8 0, .int .u8 0, .int .u8 0]).heap[g2]? = some (.cells #[.int .u8 0, .int .u8 0, .int .u8 0, .int .u8 0, .int .u8 0, .int .u8 0, .int .u8 0, .int .u8 0] 104)) := Lib.hid ((setRow_other _ _ _ _ (by omega)).trans Y2.out)
  generalize w2.setRow g3 #[.int .u8 8, .int .u8 0, .int .u8 2, .int .u8 0, .int .u8 1, .int .u8 0, .int .u8 0, .int .u8 0] = w3 at *
  have KS : Hid (∀ wx, Near g2 w3 wx → wx.cell? ⟨g3, 0, none⟩ = some (.int .u8 8) ∧ wx.cell? ⟨g3, 1, none⟩ = some (.int .u8 0) ∧ wx.cell? ⟨g3, 2, none⟩ = some (.int .u8 2) ∧ wx.cell? ⟨g3, 3, none⟩ = some (.int .u8 0) ∧ wx.cell? ⟨g3, 4, none⟩ = some (.int .u8 1) ∧ wx.cell? ⟨g3, 5, none⟩ = some (.int .u8 0) ∧ wx.cell? ⟨g3, 6, none⟩ = some (.int .u8 0) ∧ wx.cell? ⟨g3, 7, none⟩ = some (.int .u8 0)) := Lib.hid (fun wx hn => by
    have h := (hn.block (lt_of_block X3.out) (by omega)).trans X3.out
    exact ⟨by rw [cell_of_row _ _ 0 _ _ _ h]; rfl, by rw [cell_of_row _ _ 1 _ _ _ h]; rfl, by rw [cell_of_row _ _ 2 _ _ _ h]; rfl, by rw [cell_of_row _ _ 3 _ _ _ h]; rfl, by rw [cell_of_row _ _ 4 _ _ _ h]; rfl, by rw [cell_of_row _ _ 5 _ _ _ h]; rfl, by rw [cell_of_row _ _ 6 _ _ _ h]; rfl, by rw [cell_of_row _ _ 7 _ _ _ h]; rfl⟩)
  refine wp_region_held_drew (S := fun wx => Near g2 w3 wx) (by kernel_rfl) (near_drew (Near.refl _ _)) (fun hHeld => ?_)
  first
    | (refine tkw 0 ?_ rfl ?_ ?_
       rotate_left
       · intro wx hSw
         obtain ⟨s0, s1, s2, s3, s4, s5, s6, s7⟩ := KS.out wx hSw
         (first | (go_simp; rfl) | go_simp | rfl))
    | refine tku 0 rfl ?_
  first
    | (refine tkw 1 ?_ rfl ?_ ?_
       rotate_left
       · intro wx hSw
         obtain ⟨s0, s1, s2, s3, s4, s5, s6, s7⟩ := KS.out wx hSw
         (first | (go_simp; rfl) | go_simp | rfl))
    | refine tku 1 rfl ?_
  first
    | (refine tkw 2 ?_ rfl ?_ ?_
       rotate_left
       · intro wx hSw
         obtain ⟨s0, s1, s2, s3, s4, s5, s6, s7⟩ := KS.out wx hSw
         (first | (go_simp; rfl) | go_simp | rfl))
    | refine tku 2 rfl ?_
  first
    | (refine tkw 3 ?_ rfl ?_ ?_
       rotate_left
       · intro wx hSw
         obtain ⟨s0, s1, s2, s3, s4, s5, s6, s7⟩ := KS.out wx hSw
         (first | (go_simp; rfl) | go_simp | rfl))
    | refine tku 3 rfl ?_
  refine wpAnyH_ready (rs := [4]) (by kernel_rfl) (by simp) ?_
  refine AllReadyH.cons rfl (fun K hK => ?_) AllReadyH.nil
  go_simp
  have c0 : w3.cell? ⟨g2, 0, none⟩ = some (.int .u8 0) := by rw [cell_of_row _ _ 0 _ _ _ X2.out]; rfl
  have f0 : w3.frozen? ⟨g2, 0, none⟩ = false := frozen_of_row _ _ _ _ _ X2.out
  have c1 : w3.cell? ⟨g2, 1, none⟩ = some (.int .u8 0) := by rw [cell_of_row _ _ 1 _ _ _ X2.out]; rfl
  have f1 : w3.frozen? ⟨g2, 1, none⟩ = false := frozen_of_row _ _ _ _ _ X2.out
  have c2 : w3.cell? ⟨g2, 2, none⟩ = some (.int .u8 0) := by rw [cell_of_row _ _ 2 _ _ _ X2.out]; rfl
  have f2 : w3.frozen? ⟨g2, 2, none⟩ = false := frozen_of_row _ _ _ _ _ X2.out
  have c3 : w3.cell? ⟨g2, 3, none⟩ = some (.int .u8 0) := by rw [cell_of_row _ _ 3 _ _ _ X2.out]; rfl
  have f3 : w3.frozen? ⟨g2, 3, none⟩ = false := frozen_of_row _ _ _ _ _ X2.out
  have c4 : w3.cell? ⟨g2, 4, none⟩ = some (.int .u8 0) := by rw [cell_of_row _ _ 4 _ _ _ X2.out]; rfl
  have f4 : w3.frozen? ⟨g2, 4, none⟩ = false := frozen_of_row _ _ _ _ _ X2.out
  have c5 : w3.cell? ⟨g2, 5, none⟩ = some (.int .u8 0) := by rw [cell_of_row _ _ 5 _ _ _ X2.out]; rfl
  have f5 : w3.frozen? ⟨g2, 5, none⟩ = false := frozen_of_row _ _ _ _ _ X2.out
  have c6 : w3.cell? ⟨g2, 6, none⟩ = some (.int .u8 0) := by rw [cell_of_row _ _ 6 _ _ _ X2.out]; rfl
  have f6 : w3.frozen? ⟨g2, 6, none⟩ = false := frozen_of_row _ _ _ _ _ X2.out
  have c7 : w3.cell? ⟨g2, 7, none⟩ = some (.int .u8 0) := by rw [cell_of_row _ _ 7 _ _ _ X2.out]; rfl
  have f7 : w3.frozen? ⟨g2, 7, none⟩ = false := frozen_of_row _ _ _ _ _ X2.out
  go_simp
  rw [eight_stores X2.out]
  clear c0 c1 c2 c3 c4 c5 c6 c7 f0 f1 f2 f3 f4 f5 f6 f7
  refine hK.out _ _ (near_drew (near_row _ _ _)) (fun hHeld => ?_)
  clear hK K
  try simp only [List.getElem_toArray, List.getElem_cons_zero, List.getElem_cons_succ, Act.put, List.setIfInBounds_toArray, List.set_cons_zero, List.set_cons_succ, Array.toArray_toList]
  first
    | (refine tkw 5 ?_ rfl ?_ ?_
       rotate_left
       · intro wx hSw
         obtain ⟨s0, s1, s2, s3, s4, s5, s6, s7⟩ := KS.out wx hSw
         (first | (go_simp; rfl) | go_simp | rfl))
    | refine tku 5 rfl ?_
  refine wpAnyH_done (by kernel_rfl) ?_ _
  have X4 : (w3.setRow g2 #[.int .u8 8, .int .u8 0, .int .u8 2, .int .u8 0, .int .u8 1, .int .u8 0, .int .u8 0, .int .u8 0]).drew.heap[g2]? = some (.cells #[.int .u8 8, .int .u8 0, .int .u8 2, .int .u8 0, .int .u8 1, .int .u8 0, .int .u8 0, .int .u8 0] 104) := setRow_heap _ _ _ _ _ _ X2.out
  have X4h := Lib.hid X4
  clear X4
  go_wp2_with fail
  refine bodyPost_ret_by (results_cellT Tryz.results66 _ _ g2 104 #[.int .u8 8, .int .u8 0, .int .u8 2, .int .u8 0, .int .u8 1, .int .u8 0, .int .u8 0, .int .u8 0] (0, 0) _ rfl X4h.out Tryz.underlying104 rfl HI.out) (by rfl) ?_
  exact ⟨rfl, (below_setRow B3.out (by omega) _).drew⟩

set_option maxRecDepth 100000 in
set_option maxHeartbeats 8000000 in
theorem grouped_255_0_8 (w : World) : Calls Tryz.prog 65 #[.agg #[.bool false, .int .u8 255, .int .u8 0, .int .u8 8]] w fun e w' => e = .returned (.bool true) ∧ Below w.heap.size w w' := by
  go_enter Tryz.func65, Tryz.ntmps65
  go_wp2_with fail
  go_ret
  exact ⟨rfl, by go_grown⟩

set_option maxRecDepth 100000 in
set_option maxHeartbeats 8000000 in
theorem last_255_0_8 (w : World) : Calls Tryz.prog 100 #[.agg #[.bool false, .int .u8 255, .int .u8 0, .int .u8 8]] w fun e w' => e = .returned (.agg #[.int .u8 12, .int .u8 0, .int .u8 2, .int .u8 0, .int .u8 0, .int .u8 0, .int .u8 0, .int .u8 0]) ∧ Below w.heap.size w w' := by
  go_enter Tryz.func100, Tryz.ntmps100
  go_wp2_with fail
  go_returns
  exact ⟨rfl, by go_grown⟩

set_option maxRecDepth 100000 in
set_option maxHeartbeats 8000000 in
theorem group_255_0_8 (w : World) : Calls Tryz.prog 86 #[.agg #[.bool false, .int .u8 255, .int .u8 0, .int .u8 8]] w fun e w' => e = .returned (.agg #[.int .u8 12, .int .u8 0, .int .u8 2, .int .u8 0, .int .u8 0, .int .u8 0, .int .u8 0, .int .u8 0]) ∧ Below w.heap.size w w' := by
  go_enter Tryz.func86, Tryz.ntmps86
  go_wp2_with fail
  refine (last_255_0_8 _).mono ?_
  rintro e w1 ⟨rfl, b1⟩
  have XB := Lib.hid ((b1.block _ (by simp)).trans (two_new w #[.bool false, .int .u8 255, .int .u8 0, .int .u8 8] #[.int .u8 0, .int .u8 0, .int .u8 0, .int .u8 0, .int .u8 0, .int .u8 0, .int .u8 0, .int .u8 0] 139 104))
  have B1 : Hid (Below w.heap.size w w1) := Lib.hid (Below.trans (by go_grown) (b1.mono (by simp; omega)))
  clear b1
  have HI : Hid ((Tryz.prog.info? 104).map (·.size) = some ((#[.int .u8 12, .int .u8 0, .int .u8 2, .int .u8 0, .int .u8 0, .int .u8 0, .int .u8 0, .int .u8 0] : Array Value).size)) := Lib.hid (by kernel_rfl)
  have HO : Hid (((#[.int .u8 12, .int .u8 0, .int .u8 2, .int .u8 0, .int .u8 0, .int .u8 0, .int .u8 0, .int .u8 0] : Array Value)).all (·.oneCell') = true) := Lib.hid (by simp [Value.oneCell'])
  go_wp2_with (refine wpList_store_row rfl 104 _ _ rfl (w.heap.size + 1) #[.int .u8 12, .int .u8 0, .int .u8 2, .int .u8 0, .int .u8 0, .int .u8 0, .int .u8 0, .int .u8 0] rfl (by rfl) 104 _ XB.out HI.out (by rfl) HO.out ?_)
  refine bodyPost_ret_by (results_cell_row Tryz.results86 _ _ (w.heap.size + 1) 104 #[.int .u8 12, .int .u8 0, .int .u8 2, .int .u8 0, .int .u8 0, .int .u8 0, .int .u8 0, .int .u8 0] (0, 0) _ rfl (setRow_heap _ _ _ _ _ _ XB.out) Tryz.underlying104 rfl (by kernel_rfl)) (by rfl) ?_
  exact ⟨rfl, below_setRow B1.out (by omega) _⟩

set_option maxRecDepth 100000 in
set_option maxHeartbeats 8000000 in
theorem orow_255_0_8 (w : World) : Calls Tryz.prog 66 #[.agg #[.bool false, .int .u8 255, .int .u8 0, .int .u8 8]] w fun e w' => e = .returned (.tuple #[.agg #[.int .u8 12, .int .u8 0, .int .u8 2, .int .u8 0, .int .u8 0, .int .u8 0, .int .u8 0, .int .u8 0], .bool true]) ∧ Below w.heap.size w w' := by
  go_enter Tryz.func66, Tryz.ntmps66
  have XW : Hid ((((w.alloc (.cells #[.bool false, .int .u8 255, .int .u8 0, .int .u8 8] 139)).alloc (.cells #[.int .u8 0, .int .u8 0, .int .u8 0, .int .u8 0, .int .u8 0, .int .u8 0, .int .u8 0, .int .u8 0] 104)).alloc (.cells #[.int .u8 0, .int .u8 0, .int .u8 0, .int .u8 0, .int .u8 0, .int .u8 0, .int .u8 0, .int .u8 0] 104)).heap[w.heap.size]? = some (.cells #[.bool false, .int .u8 255, .int .u8 0, .int .u8 8] 139) ∧ (((w.alloc (.cells #[.bool false, .int .u8 255, .int .u8 0, .int .u8 8] 139)).alloc (.cells #[.int .u8 0, .int .u8 0, .int .u8 0, .int .u8 0, .int .u8 0, .int .u8 0, .int .u8 0, .int .u8 0] 104)).alloc (.cells #[.int .u8 0, .int .u8 0, .int .u8 0, .int .u8 0, .int .u8 0, .int .u8 0, .int .u8 0, .int .u8 0] 104)).heap[w.heap.size + 1]? = some (.cells #[.int .u8 0, .int .u8 0, .int .u8 0, .int .u8 0, .int .u8 0, .int .u8 0, .int .u8 0, .int .u8 0] 104) ∧ (((w.alloc (.cells #[.bool false, .int .u8 255, .int .u8 0, .int .u8 8] 139)).alloc (.cells #[.int .u8 0, .int .u8 0, .int .u8 0, .int .u8 0, .int .u8 0, .int .u8 0, .int .u8 0, .int .u8 0] 104)).alloc (.cells #[.int .u8 0, .int .u8 0, .int .u8 0, .int .u8 0, .int .u8 0, .int .u8 0, .int .u8 0, .int .u8 0] 104)).heap[w.heap.size + 2]? = some (.cells #[.int .u8 0, .int .u8 0, .int .u8 0, .int .u8 0, .int .u8 0, .int .u8 0, .int .u8 0, .int .u8 0] 104)) := Lib.hid (three_new _ _ _ _ _ _ _)
  have B0 : Hid (Below w.heap.size w (((w.alloc (.cells #[.bool false, .int .u8 255, .int .u8 0, .int .u8 8] 139)).alloc (.cells #[.int .u8 0, .int .u8 0, .int .u8 0, .int .u8 0, .int .u8 0, .int .u8 0, .int .u8 0, .int .u8 0] 104)).alloc (.cells #[.int .u8 0, .int .u8 0, .int .u8 0, .int .u8 0, .int .u8 0, .int .u8 0, .int .u8 0, .int .u8 0] 104))) := Lib.hid (by go_grown)
  have HI : Hid ((Tryz.prog.info? 104).map (·.size) = some ((#[.int .u8 12, .int .u8 0, .int .u8 2, .int .u8 0, .int .u8 0, .int .u8 0, .int .u8 0, .int .u8 0] : Array Value).size)) := Lib.hid (by kernel_rfl)
  have HO : Hid (((#[.int .u8 12, .int .u8 0, .int .u8 2, .int .u8 0, .int .u8 0, .int .u8 0, .int .u8 0, .int .u8 0] : Array Value)).all (·.oneCell') = true) := Lib.hid (by simp [Value.oneCell'])
  go_wp2_with fail
  obtain ⟨w0, hw0⟩ : ∃ w0, (((w.alloc (.cells #[.bool false, .int .u8 255, .int .u8 0, .int .u8 8] 139)).alloc (.cells #[.int .u8 0, .int .u8 0, .int .u8 0, .int .u8 0, .int .u8 0, .int .u8 0, .int .u8 0, .int .u8 0] 104)).alloc (.cells #[.int .u8 0, .int .u8 0, .int .u8 0, .int .u8 0, .int .u8 0, .int .u8 0, .int .u8 0, .int .u8 0] 104)) = w0 := ⟨_, rfl⟩
  obtain ⟨g1, hg1⟩ : ∃ g1, w.heap.size = g1 := ⟨_, rfl⟩
  obtain ⟨g2, hg2⟩ : ∃ g2, w.heap.size + 1 = g2 := ⟨_, rfl⟩
  obtain ⟨g3, hg3⟩ : ∃ g3, w.heap.size + 2 = g3 := ⟨_, rfl⟩
  have e3 : w.heap.size + 1 + 1 = g3 := hg3
  rw [hw0, hg3, hg2, hg1] at XW
  rw [hw0] at B0 ⊢
  try rw [e3]
  try rw [hg2]
  try rw [hg1]
  clear e3 hw0
  refine (grouped_255_0_8 _).mono ?_
  rintro e w1 ⟨rfl, b1⟩
  have Y1 := Lib.hid ((b1.block _ (lt_of_block XW.out.1)).trans XW.out.1)
  have s0 : w1.cell? ⟨g1, 0, none⟩ = some (.bool false) := by rw [cell_of_row _ _ 0 _ _ _ Y1.out]; rfl
  have s1 : w1.cell? ⟨g1, 1, none⟩ = some (.int .u8 255) := by rw [cell_of_row _ _ 1 _ _ _ Y1.out]; rfl
  have s2 : w1.cell? ⟨g1, 2, none⟩ = some (.int .u8 0) := by rw [cell_of_row _ _ 2 _ _ _ Y1.out]; rfl
  have s3 : w1.cell? ⟨g1, 3, none⟩ = some (.int .u8 8) := by rw [cell_of_row _ _ 3 _ _ _ Y1.out]; rfl
  go_wp2_with fail
  refine (group_255_0_8 _).mono ?_
  rintro e w2 ⟨rfl, b2⟩
  have B2 : Hid (Below w0.heap.size w0 w2) := Lib.hid (bstep b1 b2)
  have Y3 := Lib.hid ((B2.out.block _ (lt_of_block XW.out.2.2)).trans XW.out.2.2)
  have Y2 := Lib.hid ((B2.out.block _ (lt_of_block XW.out.2.1)).trans XW.out.2.1)
  clear b1 b2 s0 s1 s2 s3
  go_upto_region 11 with (refine wpList_store_row rfl 104 _ _ rfl g3 #[.int .u8 12, .int .u8 0, .int .u8 2, .int .u8 0, .int .u8 0, .int .u8 0, .int .u8 0, .int .u8 0] rfl (by rfl) 104 _ Y3.out HI.out (by rfl) HO.out ?_)
  have B3 : Hid (Below w.heap.size w (w2.setRow g3 #[.int .u8 12, .int .u8 0, .int .u8 2, .int .u8 0, .int .u8 0, .int .u8 0, .int .u8 0, .int .u8 0])) := Lib.hid (below_setRow (B0.out.trans (B2.out.mono B0.out.size)) (by omega) _)
  have X3 : Hid ((w2.setRow g3 #[.int .u8 12, .int .u8 0, .int .u8 2, .int .u8 0, .int .u8 0, .int .u8 0, .int .u8 0, .int .u8 0]).heap[g3]? = some (.cells #[.int .u8 12, .int .u8 0, .int .u8 2, .int .u8 0, .int .u8 0, .int .u8 0, .int .u8 0, .int .u8 0] 104)) := Lib.hid (setRow_heap _ _ _ _ _ _ Y3.out)
  have X2 : Hid ((w2.setRow g3 #[.int .u8 12, .int .u8 0, .int .u8 2, .int .u8 0, .int .u8 0, .int .u8 0, .int .u8 0, .int .u8 0]).heap[g2]? = some (.cells #[.int .u8 0, .int .u8 0, .int .u8 0, .int .u8 0, .int .u8 0, .int .u8 0, .int .u8 0, .int .u8 0] 104)) := Lib.hid ((setRow_other _ _ _ _ (by omega)).trans Y2.out)
  generalize w2.setRow g3 #[.int .u8 12, .int .u8 0, .int .u8 2, .int .u8 0, .int .u8 0, .int .u8 0, .int .u8 0, .int .u8 0] = w3 at *
  have KS : Hid (∀ wx, Near g2 w3 wx → wx.cell? ⟨g3, 0, none⟩ = some (.int .u8 12) ∧ wx.cell? ⟨g3, 1, none⟩ = some (.int .u8 0) ∧ wx.cell? ⟨g3, 2, none⟩ = some (.int .u8 2) ∧ wx.cell? ⟨g3, 3, none⟩ = some (.int .u8 0) ∧ wx.cell? ⟨g3, 4, none⟩ = some (.int .u8 0) ∧ wx.cell? ⟨g3, 5, none⟩ = some (.int .u8 0) ∧ wx.cell? ⟨g3, 6, none⟩ = some (.int .u8 0) ∧ wx.cell? ⟨g3, 7, none⟩ = some (.int .u8 0)) := Lib.hid (fun wx hn => by
    have h := (hn.block (lt_of_block X3.out) (by omega)).trans X3.out
    exact ⟨by rw [cell_of_row _ _ 0 _ _ _ h]; rfl, by rw [cell_of_row _ _ 1 _ _ _ h]; rfl, by rw [cell_of_row _ _ 2 _ _ _ h]; rfl, by rw [cell_of_row _ _ 3 _ _ _ h]; rfl, by rw [cell_of_row _ _ 4 _ _ _ h]; rfl, by rw [cell_of_row _ _ 5 _ _ _ h]; rfl, by rw [cell_of_row _ _ 6 _ _ _ h]; rfl, by rw [cell_of_row _ _ 7 _ _ _ h]; rfl⟩)
  refine wp_region_held_drew (S := fun wx => Near g2 w3 wx) (by kernel_rfl) (near_drew (Near.refl _ _)) (fun hHeld => ?_)
  first
    | (refine tkw 0 ?_ rfl ?_ ?_
       rotate_left
       · intro wx hSw
         obtain ⟨s0, s1, s2, s3, s4, s5, s6, s7⟩ := KS.out wx hSw
         (first | (go_simp; rfl) | go_simp | rfl))
    | refine tku 0 rfl ?_
  first
    | (refine tkw 1 ?_ rfl ?_ ?_
       rotate_left
       · intro wx hSw
         obtain ⟨s0, s1, s2, s3, s4, s5, s6, s7⟩ := KS.out wx hSw
         (first | (go_simp; rfl) | go_simp | rfl))
    | refine tku 1 rfl ?_
  first
    | (refine tkw 2 ?_ rfl ?_ ?_
       rotate_left
       · intro wx hSw
         obtain ⟨s0, s1, s2, s3, s4, s5, s6, s7⟩ := KS.out wx hSw
         (first | (go_simp; rfl) | go_simp | rfl))
    | refine tku 2 rfl ?_
  first
    | (refine tkw 3 ?_ rfl ?_ ?_
       rotate_left
       · intro wx hSw
         obtain ⟨s0, s1, s2, s3, s4, s5, s6, s7⟩ := KS.out wx hSw
         (first | (go_simp; rfl) | go_simp | rfl))
    | refine tku 3 rfl ?_
  refine wpAnyH_ready (rs := [4]) (by kernel_rfl) (by simp) ?_
  refine AllReadyH.cons rfl (fun K hK => ?_) AllReadyH.nil
  go_simp
  have c0 : w3.cell? ⟨g2, 0, none⟩ = some (.int .u8 0) := by rw [cell_of_row _ _ 0 _ _ _ X2.out]; rfl
  have f0 : w3.frozen? ⟨g2, 0, none⟩ = false := frozen_of_row _ _ _ _ _ X2.out
  have c1 : w3.cell? ⟨g2, 1, none⟩ = some (.int .u8 0) := by rw [cell_of_row _ _ 1 _ _ _ X2.out]; rfl
  have f1 : w3.frozen? ⟨g2, 1, none⟩ = false := frozen_of_row _ _ _ _ _ X2.out
  have c2 : w3.cell? ⟨g2, 2, none⟩ = some (.int .u8 0) := by rw [cell_of_row _ _ 2 _ _ _ X2.out]; rfl
  have f2 : w3.frozen? ⟨g2, 2, none⟩ = false := frozen_of_row _ _ _ _ _ X2.out
  have c3 : w3.cell? ⟨g2, 3, none⟩ = some (.int .u8 0) := by rw [cell_of_row _ _ 3 _ _ _ X2.out]; rfl
  have f3 : w3.frozen? ⟨g2, 3, none⟩ = false := frozen_of_row _ _ _ _ _ X2.out
  have c4 : w3.cell? ⟨g2, 4, none⟩ = some (.int .u8 0) := by rw [cell_of_row _ _ 4 _ _ _ X2.out]; rfl
  have f4 : w3.frozen? ⟨g2, 4, none⟩ = false := frozen_of_row _ _ _ _ _ X2.out
  have c5 : w3.cell? ⟨g2, 5, none⟩ = some (.int .u8 0) := by rw [cell_of_row _ _ 5 _ _ _ X2.out]; rfl
  have f5 : w3.frozen? ⟨g2, 5, none⟩ = false := frozen_of_row _ _ _ _ _ X2.out
  have c6 : w3.cell? ⟨g2, 6, none⟩ = some (.int .u8 0) := by rw [cell_of_row _ _ 6 _ _ _ X2.out]; rfl
  have f6 : w3.frozen? ⟨g2, 6, none⟩ = false := frozen_of_row _ _ _ _ _ X2.out
  have c7 : w3.cell? ⟨g2, 7, none⟩ = some (.int .u8 0) := by rw [cell_of_row _ _ 7 _ _ _ X2.out]; rfl
  have f7 : w3.frozen? ⟨g2, 7, none⟩ = false := frozen_of_row _ _ _ _ _ X2.out
  go_simp
  rw [eight_stores X2.out]
  clear c0 c1 c2 c3 c4 c5 c6 c7 f0 f1 f2 f3 f4 f5 f6 f7
  refine hK.out _ _ (near_drew (near_row _ _ _)) (fun hHeld => ?_)
  clear hK K
  try simp only [List.getElem_toArray, List.getElem_cons_zero, List.getElem_cons_succ, Act.put, List.setIfInBounds_toArray, List.set_cons_zero, List.set_cons_succ, Array.toArray_toList]
  first
    | (refine tkw 5 ?_ rfl ?_ ?_
       rotate_left
       · intro wx hSw
         obtain ⟨s0, s1, s2, s3, s4, s5, s6, s7⟩ := KS.out wx hSw
         (first | (go_simp; rfl) | go_simp | rfl))
    | refine tku 5 rfl ?_
  refine wpAnyH_done (by kernel_rfl) ?_ _
  have X4 : (w3.setRow g2 #[.int .u8 12, .int .u8 0, .int .u8 2, .int .u8 0, .int .u8 0, .int .u8 0, .int .u8 0, .int .u8 0]).drew.heap[g2]? = some (.cells #[.int .u8 12, .int .u8 0, .int .u8 2, .int .u8 0, .int .u8 0, .int .u8 0, .int .u8 0, .int .u8 0] 104) := setRow_heap _ _ _ _ _ _ X2.out
  have X4h := Lib.hid X4
  clear X4
  go_wp2_with fail
  refine bodyPost_ret_by (results_cellT Tryz.results66 _ _ g2 104 #[.int .u8 12, .int .u8 0, .int .u8 2, .int .u8 0, .int .u8 0, .int .u8 0, .int .u8 0, .int .u8 0] (0, 0) _ rfl X4h.out Tryz.underlying104 rfl HI.out) (by rfl) ?_
  exact ⟨rfl, (below_setRow B3.out (by omega) _).drew⟩

set_option maxRecDepth 100000 in
set_option maxHeartbeats 8000000 in
theorem grouped_244_0_0 (w : World) : Calls Tryz.prog 65 #[.agg #[.bool false, .int .u8 244, .int .u8 0, .int .u8 0]] w fun e w' => e = .returned (.bool false) ∧ Below w.heap.size w w' := by
  go_enter Tryz.func65, Tryz.ntmps65
  go_wp2_with fail
  go_ret
  exact ⟨rfl, by go_grown⟩

set_option maxRecDepth 100000 in
set_option maxHeartbeats 8000000 in
theorem upper_244_0_0 (w : World) : Calls Tryz.prog 89 #[.agg #[.bool false, .int .u8 244, .int .u8 0, .int .u8 0]] w fun e w' => e = .returned (.agg #[.int .u8 30, .int .u8 0, .int .u8 0, .int .u8 0, .int .u8 0, .int .u8 0, .int .u8 0, .int .u8 0]) ∧ Below w.heap.size w w' := by
  go_enter Tryz.func89, Tryz.ntmps89
  go_wp2_with fail
  go_returns
  exact ⟨rfl, by go_grown⟩

set_option maxRecDepth 100000 in
set_option maxHeartbeats 8000000 in
theorem orow_244_0_0 (w : World) : Calls Tryz.prog 66 #[.agg #[.bool false, .int .u8 244, .int .u8 0, .int .u8 0]] w fun e w' => e = .returned (.tuple #[.agg #[.int .u8 30, .int .u8 0, .int .u8 0, .int .u8 0, .int .u8 0, .int .u8 0, .int .u8 0, .int .u8 0], .bool true]) ∧ Below w.heap.size w w' := by
  go_enter Tryz.func66, Tryz.ntmps66
  have XW : Hid ((((w.alloc (.cells #[.bool false, .int .u8 244, .int .u8 0, .int .u8 0] 139)).alloc (.cells #[.int .u8 0, .int .u8 0, .int .u8 0, .int .u8 0, .int .u8 0, .int .u8 0, .int .u8 0, .int .u8 0] 104)).alloc (.cells #[.int .u8 0, .int .u8 0, .int .u8 0, .int .u8 0, .int .u8 0, .int .u8 0, .int .u8 0, .int .u8 0] 104)).heap[w.heap.size]? = some (.cells #[.bool false, .int .u8 244, .int .u8 0, .int .u8 0] 139) ∧ (((w.alloc (.cells #[.bool false, .int .u8 244, .int .u8 0, .int .u8 0] 139)).alloc (.cells #[.int .u8 0, .int .u8 0, .int .u8 0, .int .u8 0, .int .u8 0, .int .u8 0, .int .u8 0, .int .u8 0] 104)).alloc (.cells #[.int .u8 0, .int .u8 0, .int .u8 0, .int .u8 0, .int .u8 0, .int .u8 0, .int .u8 0, .int .u8 0] 104)).heap[w.heap.size + 1]? = some (.cells #[.int .u8 0, .int .u8 0, .int .u8 0, .int .u8 0, .int .u8 0, .int .u8 0, .int .u8 0, .int .u8 0] 104) ∧ (((w.alloc (.cells #[.bool false, .int .u8 244, .int .u8 0, .int .u8 0] 139)).alloc (.cells #[.int .u8 0, .int .u8 0, .int .u8 0, .int .u8 0, .int .u8 0, .int .u8 0, .int .u8 0, .int .u8 0] 104)).alloc (.cells #[.int .u8 0, .int .u8 0, .int .u8 0, .int .u8 0, .int .u8 0, .int .u8 0, .int .u8 0, .int .u8 0] 104)).heap[w.heap.size + 2]? = some (.cells #[.int .u8 0, .int .u8 0, .int .u8 0, .int .u8 0, .int .u8 0, .int .u8 0, .int .u8 0, .int .u8 0] 104)) := Lib.hid (three_new _ _ _ _ _ _ _)
  have B0 : Hid (Below w.heap.size w (((w.alloc (.cells #[.bool false, .int .u8 244, .int .u8 0, .int .u8 0] 139)).alloc (.cells #[.int .u8 0, .int .u8 0, .int .u8 0, .int .u8 0, .int .u8 0, .int .u8 0, .int .u8 0, .int .u8 0] 104)).alloc (.cells #[.int .u8 0, .int .u8 0, .int .u8 0, .int .u8 0, .int .u8 0, .int .u8 0, .int .u8 0, .int .u8 0] 104))) := Lib.hid (by go_grown)
  have HI : Hid ((Tryz.prog.info? 104).map (·.size) = some ((#[.int .u8 30, .int .u8 0, .int .u8 0, .int .u8 0, .int .u8 0, .int .u8 0, .int .u8 0, .int .u8 0] : Array Value).size)) := Lib.hid (by kernel_rfl)
  have HO : Hid (((#[.int .u8 30, .int .u8 0, .int .u8 0, .int .u8 0, .int .u8 0, .int .u8 0, .int .u8 0, .int .u8 0] : Array Value)).all (·.oneCell') = true) := Lib.hid (by simp [Value.oneCell'])
  go_wp2_with fail
  obtain ⟨w0, hw0⟩ : ∃ w0, (((w.alloc (.cells #[.bool false, .int .u8 244, .int .u8 0, .int .u8 0] 139)).alloc (.cells #[.int .u8 0, .int .u8 0, .int .u8 0, .int .u8 0, .int .u8 0, .int .u8 0, .int .u8 0, .int .u8 0] 104)).alloc (.cells #[.int .u8 0, .int .u8 0, .int .u8 0, .int .u8 0, .int .u8 0, .int .u8 0, .int .u8 0, .int .u8 0] 104)) = w0 := ⟨_, rfl⟩
  obtain ⟨g1, hg1⟩ : ∃ g1, w.heap.size = g1 := ⟨_, rfl⟩
  obtain ⟨g2, hg2⟩ : ∃ g2, w.heap.size + 1 = g2 := ⟨_, rfl⟩
  obtain ⟨g3, hg3⟩ : ∃ g3, w.heap.size + 2 = g3 := ⟨_, rfl⟩
  have e3 : w.heap.size + 1 + 1 = g3 := hg3
  rw [hw0, hg3, hg2, hg1] at XW
  rw [hw0] at B0 ⊢
  try rw [e3]
  try rw [hg2]
  try rw [hg1]
  clear e3 hw0
  refine (grouped_244_0_0 _).mono ?_
  rintro e w1 ⟨rfl, b1⟩
  have Y1 := Lib.hid ((b1.block _ (lt_of_block XW.out.1)).trans XW.out.1)
  have s0 : w1.cell? ⟨g1, 0, none⟩ = some (.bool false) := by rw [cell_of_row _ _ 0 _ _ _ Y1.out]; rfl
  have s1 : w1.cell? ⟨g1, 1, none⟩ = some (.int .u8 244) := by rw [cell_of_row _ _ 1 _ _ _ Y1.out]; rfl
  have s2 : w1.cell? ⟨g1, 2, none⟩ = some (.int .u8 0) := by rw [cell_of_row _ _ 2 _ _ _ Y1.out]; rfl
  have s3 : w1.cell? ⟨g1, 3, none⟩ = some (.int .u8 0) := by rw [cell_of_row _ _ 3 _ _ _ Y1.out]; rfl
  go_wp2_with fail
  refine (upper_244_0_0 _).mono ?_
  rintro e w2 ⟨rfl, b2⟩
  have B2 : Hid (Below w0.heap.size w0 w2) := Lib.hid (bstep b1 b2)
  have Y3 := Lib.hid ((B2.out.block _ (lt_of_block XW.out.2.2)).trans XW.out.2.2)
  have Y2 := Lib.hid ((B2.out.block _ (lt_of_block XW.out.2.1)).trans XW.out.2.1)
  clear b1 b2 s0 s1 s2 s3
  go_upto_region 11 with (refine wpList_store_row rfl 104 _ _ rfl g3 #[.int .u8 30, .int .u8 0, .int .u8 0, .int .u8 0, .int .u8 0, .int .u8 0, .int .u8 0, .int .u8 0] rfl (by rfl) 104 _ Y3.out HI.out (by rfl) HO.out ?_)
  have B3 : Hid (Below w.heap.size w (w2.setRow g3 #[.int .u8 30, .int .u8 0, .int .u8 0, .int .u8 0, .int .u8 0, .int .u8 0, .int .u8 0, .int .u8 0])) := Lib.hid (below_setRow (B0.out.trans (B2.out.mono B0.out.size)) (by omega) _)
  have X3 : Hid ((w2.setRow g3 #[.int .u8 30, .int .u8 0, .int .u8 0, .int .u8 0, .int .u8 0, .int .u8 0, .int .u8 0, .int .u8 0]).heap[g3]? = some (.cells #[.int .u8 30, .int .u8 0, .int .u8 0, .int .u8 0, .int .u8 0, .int .u8 0, .int .u8 0, .int .u8 0] 104)) := Lib.hid (setRow_heap _ _ _ _ _ _ Y3.out)
  have X2 : Hid ((w2.setRow g3 #[.int .u8 30, .int .u8 0, .int .u8 0, .int .u8 0, .int .u8 0, .int .u8 0, .int .u8 0, .int .u8 0]).heap[g2]? = some (.cells #[.int .u8 0, .int .u8 0, .int .u8 0, .int .u8 0, .int .u8 0, .int .u8 0, .int .u8 0, .int .u8 0] 104)) := Lib.hid ((setRow_other _ _ _ _ (by omega)).trans Y2.out)
  generalize w2.setRow g3 #[.int .u8 30, .int .u8 0, .int .u8 0, .int .u8 0, .int .u8 0, .int .u8 0, .int .u8 0, .int .u8 0] = w3 at *
  have KS : Hid (∀ wx, Near g2 w3 wx → wx.cell? ⟨g3, 0, none⟩ = some (.int .u8 30) ∧ wx.cell? ⟨g3, 1, none⟩ = some (.int .u8 0) ∧ wx.cell? ⟨g3, 2, none⟩ = some (.int .u8 0) ∧ wx.cell? ⟨g3, 3, none⟩ = some (.int .u8 0) ∧ wx.cell? ⟨g3, 4, none⟩ = some (.int .u8 0) ∧ wx.cell? ⟨g3, 5, none⟩ = some (.int .u8 0) ∧ wx.cell? ⟨g3, 6, none⟩ = some (.int .u8 0) ∧ wx.cell? ⟨g3, 7, none⟩ = some (.int .u8 0)) := Lib.hid (fun wx hn => by
    have h := (hn.block (lt_of_block X3.out) (by omega)).trans X3.out
    exact ⟨by rw [cell_of_row _ _ 0 _ _ _ h]; rfl, by rw [cell_of_row _ _ 1 _ _ _ h]; rfl, by rw [cell_of_row _ _ 2 _ _ _ h]; rfl, by rw [cell_of_row _ _ 3 _ _ _ h]; rfl, by rw [cell_of_row _ _ 4 _ _ _ h]; rfl, by rw [cell_of_row _ _ 5 _ _ _ h]; rfl, by rw [cell_of_row _ _ 6 _ _ _ h]; rfl, by rw [cell_of_row _ _ 7 _ _ _ h]; rfl⟩)
  refine wp_region_held_drew (S := fun wx => Near g2 w3 wx) (by kernel_rfl) (near_drew (Near.refl _ _)) (fun hHeld => ?_)
  first
    | (refine tkw 0 ?_ rfl ?_ ?_
       rotate_left
       · intro wx hSw
         obtain ⟨s0, s1, s2, s3, s4, s5, s6, s7⟩ := KS.out wx hSw
         (first | (go_simp; rfl) | go_simp | rfl))
    | refine tku 0 rfl ?_
  first
    | (refine tkw 1 ?_ rfl ?_ ?_
       rotate_left
       · intro wx hSw
         obtain ⟨s0, s1, s2, s3, s4, s5, s6, s7⟩ := KS.out wx hSw
         (first | (go_simp; rfl) | go_simp | rfl))
    | refine tku 1 rfl ?_
  first
    | (refine tkw 2 ?_ rfl ?_ ?_
       rotate_left
       · intro wx hSw
         obtain ⟨s0, s1, s2, s3, s4, s5, s6, s7⟩ := KS.out wx hSw
         (first | (go_simp; rfl) | go_simp | rfl))
    | refine tku 2 rfl ?_
  first
    | (refine tkw 3 ?_ rfl ?_ ?_
       rotate_left
       · intro wx hSw
         obtain ⟨s0, s1, s2, s3, s4, s5, s6, s7⟩ := KS.out wx hSw
         (first | (go_simp; rfl) | go_simp | rfl))
    | refine tku 3 rfl ?_
  refine wpAnyH_ready (rs := [4]) (by kernel_rfl) (by simp) ?_
  refine AllReadyH.cons rfl (fun K hK => ?_) AllReadyH.nil
  go_simp
  have c0 : w3.cell? ⟨g2, 0, none⟩ = some (.int .u8 0) := by rw [cell_of_row _ _ 0 _ _ _ X2.out]; rfl
  have f0 : w3.frozen? ⟨g2, 0, none⟩ = false := frozen_of_row _ _ _ _ _ X2.out
  have c1 : w3.cell? ⟨g2, 1, none⟩ = some (.int .u8 0) := by rw [cell_of_row _ _ 1 _ _ _ X2.out]; rfl
  have f1 : w3.frozen? ⟨g2, 1, none⟩ = false := frozen_of_row _ _ _ _ _ X2.out
  have c2 : w3.cell? ⟨g2, 2, none⟩ = some (.int .u8 0) := by rw [cell_of_row _ _ 2 _ _ _ X2.out]; rfl
  have f2 : w3.frozen? ⟨g2, 2, none⟩ = false := frozen_of_row _ _ _ _ _ X2.out
  have c3 : w3.cell? ⟨g2, 3, none⟩ = some (.int .u8 0) := by rw [cell_of_row _ _ 3 _ _ _ X2.out]; rfl
  have f3 : w3.frozen? ⟨g2, 3, none⟩ = false := frozen_of_row _ _ _ _ _ X2.out
  have c4 : w3.cell? ⟨g2, 4, none⟩ = some (.int .u8 0) := by rw [cell_of_row _ _ 4 _ _ _ X2.out]; rfl
  have f4 : w3.frozen? ⟨g2, 4, none⟩ = false := frozen_of_row _ _ _ _ _ X2.out
  have c5 : w3.cell? ⟨g2, 5, none⟩ = some (.int .u8 0) := by rw [cell_of_row _ _ 5 _ _ _ X2.out]; rfl
  have f5 : w3.frozen? ⟨g2, 5, none⟩ = false := frozen_of_row _ _ _ _ _ X2.out
  have c6 : w3.cell? ⟨g2, 6, none⟩ = some (.int .u8 0) := by rw [cell_of_row _ _ 6 _ _ _ X2.out]; rfl
  have f6 : w3.frozen? ⟨g2, 6, none⟩ = false := frozen_of_row _ _ _ _ _ X2.out
  have c7 : w3.cell? ⟨g2, 7, none⟩ = some (.int .u8 0) := by rw [cell_of_row _ _ 7 _ _ _ X2.out]; rfl
  have f7 : w3.frozen? ⟨g2, 7, none⟩ = false := frozen_of_row _ _ _ _ _ X2.out
  go_simp
  rw [eight_stores X2.out]
  clear c0 c1 c2 c3 c4 c5 c6 c7 f0 f1 f2 f3 f4 f5 f6 f7
  refine hK.out _ _ (near_drew (near_row _ _ _)) (fun hHeld => ?_)
  clear hK K
  try simp only [List.getElem_toArray, List.getElem_cons_zero, List.getElem_cons_succ, Act.put, List.setIfInBounds_toArray, List.set_cons_zero, List.set_cons_succ, Array.toArray_toList]
  first
    | (refine tkw 5 ?_ rfl ?_ ?_
       rotate_left
       · intro wx hSw
         obtain ⟨s0, s1, s2, s3, s4, s5, s6, s7⟩ := KS.out wx hSw
         (first | (go_simp; rfl) | go_simp | rfl))
    | refine tku 5 rfl ?_
  refine wpAnyH_done (by kernel_rfl) ?_ _
  have X4 : (w3.setRow g2 #[.int .u8 30, .int .u8 0, .int .u8 0, .int .u8 0, .int .u8 0, .int .u8 0, .int .u8 0, .int .u8 0]).drew.heap[g2]? = some (.cells #[.int .u8 30, .int .u8 0, .int .u8 0, .int .u8 0, .int .u8 0, .int .u8 0, .int .u8 0, .int .u8 0] 104) := setRow_heap _ _ _ _ _ _ X2.out
  have X4h := Lib.hid X4
  clear X4
  go_wp2_with fail
  refine bodyPost_ret_by (results_cellT Tryz.results66 _ _ g2 104 #[.int .u8 30, .int .u8 0, .int .u8 0, .int .u8 0, .int .u8 0, .int .u8 0, .int .u8 0, .int .u8 0] (0, 0) _ rfl X4h.out Tryz.underlying104 rfl HI.out) (by rfl) ?_
  exact ⟨rfl, (below_setRow B3.out (by omega) _).drew⟩

end Go.Proofs.YtmnjkaimpejohaaGreatDoor
