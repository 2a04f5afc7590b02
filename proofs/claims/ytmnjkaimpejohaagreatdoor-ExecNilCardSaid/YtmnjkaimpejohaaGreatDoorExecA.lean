/- Layer 13: registers of eight bytes are read and written; what is reckoned at the examples. -/
import Derived.Test.YtmnjkaimpejohaaGreatDoorKit
import Derived.Test.YtmnjkaimpejohaaGreatDoorNear
import Derived.Test.YtmnjkaimpejohaaGreatDoorErrs
import Derived.Test.YtmnjkaimpejohaaGreatDoorDecode
import Derived.BigRegion
import Derived.BigQuiet
import Derived.Handy
import Derived.Deep.RegionHeld3
namespace Go.Proofs.YtmnjkaimpejohaaGreatDoor
open Go.RowKit
set_option linter.unusedVariables false
set_option linter.unusedSimpArgs false

set_option maxRecDepth 100000 in
theorem low8 (v : Nat) (hv : v < 18446744073709551616) (w : World) : Calls Tryz.prog 77 #[.int .u64 (v : Int), .int .i64 8] w fun e w' => e = .returned (.int .u64 (v : Int)) ∧ w' = w := by
  have e1 : IntKind.u64.wrap (v : Int) = (v : Int) := by rw [IntKind.wrap_u64]; omega
  have e2 : IntKind.i64.wrap (8 * 8) = 64 := by decide
  have e3 : IntKind.i64.wrap (64 - 64) = 0 := by decide
  clear hv
  go_enter Tryz.func77, Tryz.ntmps77
  go_wp2_with fail
  go_ret
  exact ⟨rfl, rfl⟩
set_option maxRecDepth 100000 in
theorem ones0 (w : World) : Calls Tryz.prog 94 #[.int .u8 0] w fun e w' => e = .returned (.int .i64 0) ∧ w' = w := by
  go_enter Tryz.func94, Tryz.ntmps94
  go_wp2_with fail
  go_ret
  refine ⟨congrArg (fun z : Int => Ending.returned (.int .i64 z)) (a₂ := 0) ?_, rfl⟩
  decide +kernel
set_option maxRecDepth 100000 in
theorem top0 (w : World) : Calls Tryz.prog 80 #[.int .u64 0, .int .i64 8] w fun e w' => e = .returned (.bool false) ∧ w' = w := by
  go_enter Tryz.func80, Tryz.ntmps80
  go_wp2_with fail
  go_ret
  exact ⟨rfl, rfl⟩
set_option maxRecDepth 100000 in
theorem top1 (w : World) : Calls Tryz.prog 80 #[.int .u64 1, .int .i64 8] w fun e w' => e = .returned (.bool false) ∧ w' = w := by
  go_enter Tryz.func80, Tryz.ntmps80
  go_wp2_with fail
  go_ret
  exact ⟨rfl, rfl⟩
set_option maxRecDepth 100000 in
theorem topM (w : World) : Calls Tryz.prog 80 #[.int .u64 18446744073709551615, .int .i64 8] w fun e w' => e = .returned (.bool true) ∧ w' = w := by
  go_enter Tryz.func80, Tryz.ntmps80
  go_wp2_with fail
  go_ret
  exact ⟨rfl, rfl⟩
/-- the cells of a step: registers, flags, the memory, the instruction -/
def SAt (w : World) (sb : Nat) (C : Array Value) : Prop := w.heap[sb]? = some (.cells C 58)
theorem SAt.cell {w : World} {sb : Nat} {C : Array Value} (h : SAt w sb C) (j : Nat) : w.cell? ⟨sb, j, none⟩ = C[j]? := cell_of_row _ _ j _ _ _ h
theorem SAt.free {w : World} {sb : Nat} {C : Array Value} (h : SAt w sb C) (j : Nat) : w.frozen? ⟨sb, j, none⟩ = false := frozen_of_row _ _ _ _ _ h
theorem SAt.lt {w : World} {sb : Nat} {C : Array Value} (h : SAt w sb C) : sb < w.heap.size := lt_of_block h
theorem SAt.below {w w' : World} {sb : Nat} {C : Array Value} (h : SAt w sb C) (hb : Below w.heap.size w w') : SAt w' sb C := (hb.block _ h.lt).trans h
theorem SAt.set {w : World} {sb : Nat} {C : Array Value} (h : SAt w sb C) (j : Nat) (v : Value) : SAt (w.setCell ⟨sb, j, none⟩ v) sb (C.setIfInBounds j v) := block_set h
set_option maxRecDepth 100000 in
set_option maxHeartbeats 8000000 in
theorem value_reg (sb : Nat) (C : Array Value) (k v : Nat) (w : World) (h : SAt w sb C) (hk : k < 16) (hv : v < 18446744073709551616) (hc : C[k]? = some (.int .u64 (v : Int))) :
    Calls Tryz.prog 47 #[.pointer (some ⟨sb, 0, none⟩), .agg (operC 1 (k : Int) 8)] w fun e w' => e = .returned (.tuple #[.int .u64 (v : Int), .nilIface]) ∧ Below w.heap.size w w' := by
  have c1 : w.cell? ⟨sb, k, none⟩ = some (.int .u64 (v : Int)) := (h.cell k).trans hc
  have hlt := h.lt
  have HL : Hid (∀ wx, Calls Tryz.prog 77 #[.int .u64 (v : Int), .int .i64 8] wx fun e w' => e = .returned (.int .u64 (v : Int)) ∧ w' = wx) := Lib.hid (low8 v hv)
  have i1 : (0 : Int) ≤ (k : Int) := by omega
  have i2 : (k : Int) < 16 := by omega
  clear h hc hv hk
  unfold operC
  go_enter Tryz.func47, Tryz.ntmps47
  go_wp2_with fail
  go_quiet ((go_at_call 77; exact Calls.quiet_of_same ((HL.out _).mono (by rintro e w9 ⟨rfl, rfl⟩; exact ⟨rfl, rfl⟩))))
  go_wp2_with fail
  go_ret2
  exact ⟨rfl, below_drewN (by go_grown) _⟩
set_option maxRecDepth 100000 in
set_option maxHeartbeats 8000000 in
theorem write_reg (sb : Nat) (C : Array Value) (k v : Nat) (x : Value) (w : World) (h : SAt w sb C) (hk : k < 16) (hc : C[k]? = some x) :
    Calls Tryz.prog 44 #[.pointer (some ⟨sb, 0, none⟩), .agg (operC 1 (k : Int) 8), .int .u64 (v : Int)] w fun e w' => e = .returned .nilIface ∧ SAt w' sb (C.setIfInBounds k (.int .u64 (v : Int))) ∧ Near sb w w' := by
  have H := Lib.hid h
  have i1 : (0 : Int) ≤ (k : Int) := by omega
  have i2 : (k : Int) < 16 := by omega
  have HC := Lib.hid hc
  clear h hc hk
  unfold operC
  go_enter Tryz.func44, Tryz.ntmps44
  go_wp2_with fail
  have B1 : Hid (Below w.heap.size w (w.alloc (.cells (operC 1 (k : Int) 8) 52))) := Lib.hid (by go_grown)
  have X1 := Lib.hid (heap_alloc_new w (.cells (operC 1 (k : Int) 8) 52))
  unfold operC at B1 X1
  obtain ⟨b4, hb4⟩ : ∃ b4, w.heap.size = b4 := ⟨_, rfl⟩
  have HB4 := Lib.hid hb4
  generalize w.alloc (.cells #[.int .i64 1, .int .i64 (k : Int), .int .i64 8, .int .i64 0, .int .i64 0, .int .i64 0, .int .i64 0, .int .i64 0, .bool false, .bool false] 52) = w1 at *
  rw [hb4] at X1 ⊢
  clear hb4
  have h1 := H.out.below B1.out
  have c1 : w1.cell? ⟨sb, k, none⟩ = some x := (h1.cell k).trans HC.out
  have f1 : w1.frozen? ⟨sb, k, none⟩ = false := h1.free k
  have NE : Hid (b4 ≠ sb) := Lib.hid (by have := H.out.lt; have := HB4.out; omega)
  have x1 : w1.cell? ⟨b4, 1, none⟩ = some (.int .i64 (k : Int)) := by rw [cell_of_row _ _ 1 _ _ _ X1.out]; rfl
  have K1 : Hid (w1.drew.cell? ⟨b4, 1, none⟩ = some (.int .i64 (k : Int))) := Lib.hid x1
  have K2 : Hid ((w1.setCell ⟨sb, k, none⟩ (.int .u64 (v : Int))).drew.cell? ⟨b4, 1, none⟩ = some (.int .i64 (k : Int))) := Lib.hid ((World.cell?_setCell_other (h := fun e => NE.out (congrArg Addr.block e).symm) ..).trans x1)
  go_region_held3 (fun wx => wx.cell? ⟨b4, 1, none⟩ = some (.int .i64 (k : Int)))
    (first | with_reducible assumption | with_reducible exact K1.out | with_reducible exact K2.out)
    (fail)
  go_wp2_with fail
  go_ret
  have h2 := h1.set k (.int .u64 (v : Int))
  refine ⟨rfl, h2, ?_⟩
  have hn : Near sb w w1 := Near.of B1.out H.out.lt
  exact (hn.set k (.int .u64 (v : Int))).step ((Below.refl _ _).drew) H.out.lt
set_option maxRecDepth 100000 in
set_option maxHeartbeats 8000000 in
/-- nought is the outcome -/
theorem result0 (sb : Nat) (C : Array Value) (w : World) (h : SAt w sb C) (hs : C.size = 57) :
    Calls Tryz.prog 79 #[.pointer (some ⟨sb, 0, none⟩), .int .u64 0, .int .i64 8] w fun e w' => e = .returned (.int .u64 0) ∧ SAt w' sb (((C.setIfInBounds 19 (.bool true)).setIfInBounds 20 (.bool false)).setIfInBounds 22 (.bool true)) ∧ Near sb w w' := by
  have c19 : w.cell? ⟨sb, 19, none⟩ = some C[19] := (h.cell 19).trans (by simp)
  have c20 : w.cell? ⟨sb, 20, none⟩ = some C[20] := (h.cell 20).trans (by simp)
  have c22 : w.cell? ⟨sb, 22, none⟩ = some C[22] := (h.cell 22).trans (by simp)
  have f19 := h.free 19
  have f20 := h.free 20
  have f22 := h.free 22
  have HF : Hid (SAt (((w.setCell ⟨sb, 19, none⟩ (.bool true)).setCell ⟨sb, 20, none⟩ (.bool false)).setCell ⟨sb, 22, none⟩ (.bool true)) sb (((C.setIfInBounds 19 (.bool true)).setIfInBounds 20 (.bool false)).setIfInBounds 22 (.bool true)) ∧ Near sb w (((w.setCell ⟨sb, 19, none⟩ (.bool true)).setCell ⟨sb, 20, none⟩ (.bool false)).setCell ⟨sb, 22, none⟩ (.bool true))) := Lib.hid ⟨((h.set _ _).set _ _).set _ _, (((Near.refl _ _).set _ _).set _ _).set _ _⟩
  generalize C[19] = u19 at *
  generalize C[20] = u20 at *
  generalize C[22] = u22 at *
  have HL : Hid (∀ wx, Calls Tryz.prog 77 #[.int .u64 0, .int .i64 8] wx fun e w' => e = .returned (.int .u64 0) ∧ w' = wx) := Lib.hid (low8 0 (by omega))
  have HT := Lib.hid top0
  have HO := Lib.hid ones0
  clear h hs
  go_enter Tryz.func79, Tryz.ntmps79
  go_wp2_with (first
    | (go_at_call 77; refine (HL.out _).mono ?_; rintro e w' ⟨rfl, rfl⟩)
    | (go_at_call 80; refine (HT.out _).mono ?_; rintro e w' ⟨rfl, rfl⟩)
    | (go_at_call 94; refine (HO.out _).mono ?_; rintro e w' ⟨rfl, rfl⟩))
  go_ret
  exact ⟨rfl, HF.out.1, HF.out.2⟩
/-- what an increase by one of the greatest number leaves behind -/
def incC (C : Array Value) : Array Value := ((((C.setIfInBounds 19 (.bool true)).setIfInBounds 20 (.bool false)).setIfInBounds 22 (.bool true)).setIfInBounds 18 (.bool true)).setIfInBounds 21 (.bool false)
set_option maxRecDepth 100000 in
set_option maxHeartbeats 8000000 in
theorem add_up (sb : Nat) (C : Array Value) (w : World) (h : SAt w sb C) (hs : C.size = 57) :
    Calls Tryz.prog 52 #[.pointer (some ⟨sb, 0, none⟩), .int .u64 18446744073709551615, .int .u64 1, .int .i64 8] w fun e w' => e = .returned (.int .u64 0) ∧ SAt w' sb (incC C) ∧ Near sb w w' := by
  have HR := Lib.hid (result0 sb C w h hs)
  have H1 := Lib.hid top1
  have HM := Lib.hid topM
  have HS := Lib.hid hs
  obtain ⟨C1, hC1⟩ : ∃ C1, ((C.setIfInBounds 19 (.bool true)).setIfInBounds 20 (.bool false)).setIfInBounds 22 (.bool true) = C1 := ⟨_, rfl⟩
  have HS1 : Hid (C1.size = 57) := Lib.hid (by rw [← hC1]; simpa using hs)
  unfold incC
  rw [hC1] at HR ⊢
  clear h hs hC1
  have e1 : IntKind.u64.wrap (18446744073709551615 + 1) = 0 := by decide
  have e2 : IntKind.u64.wrap 18446744073709551616 = 0 := by decide
  go_enter Tryz.func52, Tryz.ntmps52
  go_wp2_with fail
  refine HR.out.mono ?_
  rintro e w1 ⟨rfl, s1, n1⟩
  have c18 : w1.cell? ⟨sb, 18, none⟩ = some (C1[18]'(by rw [HS1.out]; omega)) := (s1.cell 18).trans (by simp)
  have c21 : w1.cell? ⟨sb, 21, none⟩ = some (C1[21]'(by rw [HS1.out]; omega)) := (s1.cell 21).trans (by simp)
  have f18 := s1.free 18
  have f21 := s1.free 21
  have HF : Hid (SAt ((w1.setCell ⟨sb, 18, none⟩ (.bool true)).setCell ⟨sb, 21, none⟩ (.bool false)) sb ((C1.setIfInBounds 18 (.bool true)).setIfInBounds 21 (.bool false)) ∧ Near sb w ((w1.setCell ⟨sb, 18, none⟩ (.bool true)).setCell ⟨sb, 21, none⟩ (.bool false))) := Lib.hid ⟨(s1.set _ _).set _ _, (n1.set _ _).set _ _⟩
  generalize C1[18]'(by rw [HS1.out]; omega) = u18 at *
  generalize C1[21]'(by rw [HS1.out]; omega) = u21 at *
  clear s1 n1 HR
  go_wp2_with fail
  refine (HM.out _).mono ?_
  rintro e w' ⟨rfl, rfl⟩
  go_wp2_with fail
  refine (H1.out _).mono ?_
  rintro e w' ⟨rfl, rfl⟩
  go_wp2_with fail
  go_ret
  exact ⟨rfl, HF.out.1, HF.out.2⟩
end Go.Proofs.YtmnjkaimpejohaaGreatDoor
