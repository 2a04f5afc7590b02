/- Layer 13: the examples at the head of all statements come out true. -/
import Derived.Test.YtmnjkaimpejohaaGreatDoorExecF
import Derived.Test.YtmnjkaimpejohaaGreatDoorExecD
namespace Go.Proofs.YtmnjkaimpejohaaGreatDoor
open Go.RowKit
set_option linter.unusedVariables false
set_option linter.unusedSimpArgs false

theorem step_opa (g : RG) (mb : Nat) (op sz cd ka na wa kb nb wb kc nc wc : Int) : OpA (stepC g mb op sz cd ka na wa kb nb wb kc nc wc) 27 ka na wa
  | 0, _ => rfl | 1, _ => rfl | 2, _ => rfl | 3, _ => rfl | 4, _ => rfl | 5, _ => rfl | 6, _ => rfl | 7, _ => rfl | 8, _ => rfl | 9, _ => rfl
  | j + 10, h => by omega
theorem step_opb (g : RG) (mb : Nat) (op sz cd ka na wa kb nb wb kc nc wc : Int) : OpA (stepC g mb op sz cd ka na wa kb nb wb kc nc wc) 37 kb nb wb
  | 0, _ => rfl | 1, _ => rfl | 2, _ => rfl | 3, _ => rfl | 4, _ => rfl | 5, _ => rfl | 6, _ => rfl | 7, _ => rfl | 8, _ => rfl | 9, _ => rfl
  | j + 10, h => by omega
def upCode : List Nat := [72, 137, 229, 72, 255, 192, 244]
def g0 : RG := ⟨fun j => if j = 0 then 18446744073709551615 else if j = 4 then 77 else if j = 16 then 65536 else 0, false, false, false, false, false⟩
def g1 : RG := (g0.set 16 65539).set 5 77
def g2 : RG := { (g1.set 16 65542).set 0 0 with cf := false, zf := true, sf := false, ov := false, pf := true }
def g3 : RG := g2.set 16 65543
theorem bytes_get (V : Nat → Option Pg) (a n i : Nat) (h : i < n) : (bytesAt V a n).getD i 0 = byteAt V (a + i) := by
  simp [bytesAt, List.getD, h]
theorem bytes_len (V : Nat → Option Pg) (a n : Nat) : (bytesAt V a n).length = n := by simp [bytesAt]
/-- what a memory must be for the examples -/
structure UpV (V : Nat → Option Pg) : Prop where
  perm : SamePerm (vAt 4) V
  byte : ∀ x, byteAt V x = if 65536 ≤ x ∧ x < 65536 + 7 then upCode.getD (x - 65536) 0 else byteAt (vAt 4) x
theorem UpV.bar {V : Nat → Option Pg} (h : UpV V) {a : Nat} (h1 : 65536 ≤ a) (h2 : a < 65600) : barredF V 1 a 14 = none := by
  obtain ⟨p', h3, h4⟩ := h.perm.get (k := 16) (p := newPg 5) rfl
  have e : a / 4096 = 16 := by omega
  refine bar_one (p := p') (by rw [e]; exact h3) (by rw [h4]; rfl) (by omega)
theorem UpV.code {V : Nat → Option Pg} (h : UpV V) {a i : Nat} (hi : i < 14) (h1 : 65536 ≤ a) (h2 : a + i < 65543) : (bytesAt V a 14).getD i 0 = upCode.getD (a + i - 65536) 0 := by
  rw [bytes_get V a 14 i hi, h.byte, if_pos (by omega)]
theorem c_mov (mb : Nat) : (stepC (g0.set 16 65539) mb 8 3 0 1 5 8 1 4 8 0 0 0).setIfInBounds 5 (.int .u64 77) = stepC g1 mb 8 3 0 1 5 8 1 4 8 0 0 0 := by kernel_rfl
theorem c_inc (mb : Nat) : ((incC (stepC (g1.set 16 65542) mb 12 3 0 1 0 8 0 0 0 0 0 0)).setIfInBounds 18 (.bool false)).setIfInBounds 0 (.int .u64 0) = stepC g2 mb 12 3 0 1 0 8 0 0 0 0 0 0 := by kernel_rfl
theorem step1 (mb : Nat) (S : Nat → Prop) (q c : Nat) (V : Nat → Option Pg) (gm : Nat) (F : Nat → Option Nat) (b : Nat) (w : World) (h : VmAt w mb S q c V gm F) (hu : UpV V) (hr : w.heap[b]? = some (.cells g0.cells 25)) :
    Calls Tryz.prog 7 #[.pointer (some ⟨mb, 0, none⟩), .pointer (some ⟨b, 0, none⟩)] w fun e w' => e = .returned (.tuple #[.bool false, .nilIface]) ∧ w'.heap[b]? = some (.cells g1.cells 25) ∧ Near b w w' :=
  step_ok mb S q c V gm F b 65536 65539 g0 g1 8 3 0 1 5 8 1 4 8 0 0 0 w h (by omega) (hu.bar (by omega) (by omega))
    (fun gb wx h1 h2 => dec_mov _ 14 14 _ wx h1 h2 (bytes_len _ _ _) (by omega) (by omega) (hu.code (by omega) (by omega) (by omega)) (hu.code (by omega) (by omega) (by omega)) (hu.code (by omega) (by omega) (by omega)))
    hr rfl (by omega) (by omega)
    (fun sb wx hs => (do_mov sb _ 5 4 77 (.int .u64 0) wx hs rfl (step_opa _ _ _ _ _ _ _ _ _ _ _ _ _ _) (step_opb _ _ _ _ _ _ _ _ _ _ _ _ _ _) (by omega) (by omega) (by omega) rfl rfl).mono fun e w' hh => ⟨hh.1, by rw [← c_mov]; exact hh.2.1, hh.2.2⟩)
theorem step2 (mb : Nat) (S : Nat → Prop) (q c : Nat) (V : Nat → Option Pg) (gm : Nat) (F : Nat → Option Nat) (b : Nat) (w : World) (h : VmAt w mb S q c V gm F) (hu : UpV V) (hr : w.heap[b]? = some (.cells g1.cells 25)) :
    Calls Tryz.prog 7 #[.pointer (some ⟨mb, 0, none⟩), .pointer (some ⟨b, 0, none⟩)] w fun e w' => e = .returned (.tuple #[.bool false, .nilIface]) ∧ w'.heap[b]? = some (.cells g2.cells 25) ∧ Near b w w' :=
  step_ok mb S q c V gm F b 65539 65542 g1 g2 12 3 0 1 0 8 0 0 0 0 0 0 w h (by omega) (hu.bar (by omega) (by omega))
    (fun gb wx h1 h2 => dec_inc _ 14 14 _ wx h1 h2 (bytes_len _ _ _) (by omega) (by omega) (hu.code (by omega) (by omega) (by omega)) (hu.code (by omega) (by omega) (by omega)) (hu.code (by omega) (by omega) (by omega)))
    hr rfl (by omega) (by omega)
    (fun sb wx hs => (do_inc sb _ false wx hs rfl rfl (step_opa _ _ _ _ _ _ _ _ _ _ _ _ _ _) rfl rfl).mono fun e w' hh => ⟨hh.1, by rw [← c_inc]; exact hh.2.1, hh.2.2⟩)
theorem step3 (mb : Nat) (S : Nat → Prop) (q c : Nat) (V : Nat → Option Pg) (gm : Nat) (F : Nat → Option Nat) (b : Nat) (w : World) (h : VmAt w mb S q c V gm F) (hu : UpV V) (hr : w.heap[b]? = some (.cells g2.cells 25)) :
    Calls Tryz.prog 7 #[.pointer (some ⟨mb, 0, none⟩), .pointer (some ⟨b, 0, none⟩)] w fun e w' => e = .returned (.tuple #[.bool true, .nilIface]) ∧ w'.heap[b]? = some (.cells g3.cells 25) ∧ Near b w w' :=
  step_ok mb S q c V gm F b 65542 65543 g2 g3 30 1 0 0 0 0 0 0 0 0 0 0 w h (by omega) (hu.bar (by omega) (by omega))
    (fun gb wx h1 h2 => dec_hlt _ 14 14 _ wx h1 h2 (bytes_len _ _ _) (by omega) (by omega) (hu.code (by omega) (by omega) (by omega)))
    hr rfl (by omega) (by omega)
    (fun sb wx hs => (do_hlt sb _ wx hs rfl).mono fun e w' hh => ⟨hh.1, hh.2.1, hh.2.2⟩)
def gz : RG := ⟨fun j => if j = 16 then 65536 else 0, false, false, false, false, false⟩
theorem gz_built : Tryz.prog.built 25 [(1, .int .u64 65536)] = some gz.cells := by kernel_rfl
theorem gz_set : (gz.cells.setIfInBounds 4 (.int .u64 77)).setIfInBounds 0 (.int .u64 18446744073709551615) = g0.cells := by kernel_rfl
set_option maxRecDepth 100000 in
set_option maxHeartbeats 16000000 in
theorem up_exec (w : World) : Calls Tryz.prog 5 #[] w fun e w' => e = .returned (.bool true) ∧ Below w.heap.size w w' := by
  have HB : Hid (∀ wx gb, BRow wx (some ⟨gb, 0, none⟩) upCode → Calls Tryz.prog 6 #[.slice (some ⟨gb, 0, none⟩) 7 7, .slice none 0 0] wx fun e w' => ∃ (mb qb gm : Nat) (S : Nat → Prop) (F : Nat → Option Nat) (V : Nat → Option Pg), e = .returned (.tuple #[.pointer (some ⟨mb, 0, none⟩), .pointer (some ⟨qb, 0, none⟩)]) ∧ VmAt w' mb S 8 4 V gm F ∧ UpV V ∧ (∀ j, S j ∨ j = mb → wx.heap.size ≤ j ∧ j < w'.heap.size) ∧ Below wx.heap.size wx w') := Lib.hid fun wx gb hb => (both_ok _ 7 7 upCode wx hb rfl (by omega) (by omega)).mono (by
    rintro e w' ⟨mb, qb, gm, S, F, V, h1, h2, h3, h4, h5, h6⟩
    exact ⟨mb, qb, gm, S, F, V, h1, h2, ⟨h3, h4⟩, h5, h6⟩)
  go_enter Tryz.func5, Tryz.ntmps5
  go_wp2_with fail
  have BR : Hid (BRow (w.alloc (.cells #[.int .u8 72, .int .u8 137, .int .u8 229, .int .u8 72, .int .u8 255, .int .u8 192, .int .u8 244] 5)) (some ⟨w.heap.size, 0, none⟩) upCode) := Lib.hid (by
    have hx := OwnI.lit w 0 5 .u8 (toI upCode) #[.int .u8 72, .int .u8 137, .int .u8 229, .int .u8 72, .int .u8 255, .int .u8 192, .int .u8 244] rfl (Nat.zero_le _) (by decide)
    obtain ⟨a, cap, hv, hrow, -⟩ := hx.row
    simp only [Value.slice.injEq] at hv
    obtain ⟨rfl, -⟩ := hv
    exact ⟨hrow, by decide⟩)
  refine (HB.out _ _ BR.out).mono ?_
  rintro e w1 ⟨mb, qb, gm, S, F, V, rfl, v1, hu, hS, b1⟩
  have V1 := Lib.hid v1
  have HU := Lib.hid hu
  have HS := Lib.hid hS
  have B1 : Hid (Below w.heap.size w w1) := Lib.hid (Below.trans (by go_grown) (b1.mono (by simp)))
  have L1 : Hid (w.heap.size + 1 ≤ w1.heap.size ∧ ∀ j, S j ∨ j = mb → w.heap.size ≤ j ∧ j < w1.heap.size) := Lib.hid ⟨by have := b1.size; simpa using this, fun j hj => by have := hS j hj; simp at this; omega⟩
  clear v1 hu hS b1 HB BR HS
  have HBU := Lib.hid gz_built
  have HGI := Lib.hid (regs_info gz)
  have HGO := Lib.hid (regs_one gz)
  have HGS : Hid (gz.cells.size = 23) := Lib.hid rfl
  have HG4 : Hid (gz.cells[4]? = some (.int .u64 0) ∧ (gz.cells.setIfInBounds 4 (.int .u64 77))[0]? = some (.int .u64 0)) := Lib.hid ⟨rfl, rfl⟩
  have HGE := Lib.hid gz_set
  generalize gz.cells = CZ at *
  go_upto_region 5 with (first
    | (show wpList _ _ _ ({ dst := some 17, .. } :: _) _ _; refine wpList_plain rfl fun _ hK => wp_buildas 25 _ rfl [(1, .int .u64 65536)] CZ (by rw [Array.toList_map]; rfl) HBU.out (hK _ _ ?_))
    | (refine wpList_store_row rfl 25 _ _ rfl w1.heap.size CZ rfl (by rfl) 25 _ (heap_alloc_new _ _) HGI.out (by rw [HGS.out]; rfl) HGO.out ?_; rw [World.setRow_alloc_new]))
  have X2 := Lib.hid (heap_alloc_new w1 (.cells CZ 25))
  have B2 := Lib.hid (B1.out.alloc B1.out.size (.cells CZ 25))
  have V2 := Lib.hid (V1.out.below (w' := w1.alloc (.cells CZ 25)) (by go_grown))
  obtain ⟨b, hb⟩ : ∃ b, w1.heap.size = b := ⟨_, rfl⟩
  have HBS : Hid (w.heap.size ≤ b ∧ b ≠ mb ∧ ¬ S b) := Lib.hid ⟨by have := B1.out.size; omega, fun e => by have := (L1.out.2 mb (.inr rfl)).2; omega, fun e => by have := (L1.out.2 b (.inl e)).2; omega⟩
  rw [hb] at X2 ⊢
  clear hb V1 B1 L1
  generalize w1.alloc (.cells CZ 25) = w2 at *
  have c4 : w2.cell? ⟨b, 4, none⟩ = some (.int .u64 0) := (cell_of_row _ _ 4 _ _ _ X2.out).trans HG4.out.1
  have f4 : w2.frozen? ⟨b, 4, none⟩ = false := frozen_of_row _ _ _ _ _ X2.out
  go_upto_region 6 with fail
  have X3 : Hid ((w2.setCell ⟨b, 4, none⟩ (.int .u64 77)).heap[b]? = some (.cells (CZ.setIfInBounds 4 (.int .u64 77)) 25)) := Lib.hid (block_set X2.out)
  have B3 : Hid (Below w.heap.size w (w2.setCell ⟨b, 4, none⟩ (.int .u64 77))) := Lib.hid (B2.out.setCell HBS.out.1 _)
  have V3 := Lib.hid (V2.out.kept (w' := w2.setCell ⟨b, 4, none⟩ (.int .u64 77)) (fun k hk hS => Below.heap_setCell _ _ _ _ (fun e => by
    have e : k = b := e
    subst e
    rcases hS with hS | hS
    · exact HBS.out.2.1 hS
    · exact HBS.out.2.2 hS)))
  clear c4 f4 X2 B2 V2
  generalize w2.setCell ⟨b, 4, none⟩ (.int .u64 77) = w3 at *
  have c0 : w3.cell? ⟨b, 0, none⟩ = some (.int .u64 0) := (cell_of_row _ _ 0 _ _ _ X3.out).trans HG4.out.2
  have f0 : w3.frozen? ⟨b, 0, none⟩ = false := frozen_of_row _ _ _ _ _ X3.out
  go_upto_region 7 with fail
  have X4 : Hid ((w3.setCell ⟨b, 0, none⟩ (.int .u64 18446744073709551615)).heap[b]? = some (.cells g0.cells 25)) := Lib.hid (by rw [block_set X3.out, HGE.out])
  have B4 : Hid (Below w.heap.size w (w3.setCell ⟨b, 0, none⟩ (.int .u64 18446744073709551615))) := Lib.hid (B3.out.setCell HBS.out.1 _)
  have V4 := Lib.hid (V3.out.kept (w' := w3.setCell ⟨b, 0, none⟩ (.int .u64 18446744073709551615)) (fun k hk hS => Below.heap_setCell _ _ _ _ (fun e => by
    have e : k = b := e
    subst e
    rcases hS with hS | hS
    · exact HBS.out.2.1 hS
    · exact HBS.out.2.2 hS)))
  clear c0 f0 X3 B3 V3 HGE HG4 HGS HGO HGI HBU
  generalize w3.setCell ⟨b, 0, none⟩ (.int .u64 18446744073709551615) = w4 at *
  go_wp2_with fail
  refine (step1 mb S 8 4 V gm F b w4 V4.out HU.out X4.out).mono ?_
  rintro e w5 ⟨rfl, x5, n5⟩
  have X5 := Lib.hid x5
  have V5 := Lib.hid (V4.out.kept (w' := w5) (fun k hk hS => n5.block hk (fun e => by
    subst e
    rcases hS with hS | hS
    · exact HBS.out.2.1 hS
    · exact HBS.out.2.2 hS)))
  have B5 := Lib.hid (B4.out.trans (n5.below.mono HBS.out.1))
  clear x5 n5 X4 V4 B4
  go_wp2_with fail
  refine (step2 mb S 8 4 V gm F b w5 V5.out HU.out X5.out).mono ?_
  rintro e w6 ⟨rfl, x6, n6⟩
  have X6 := Lib.hid x6
  have V6 := Lib.hid (V5.out.kept (w' := w6) (fun k hk hS => n6.block hk (fun e => by
    subst e
    rcases hS with hS | hS
    · exact HBS.out.2.1 hS
    · exact HBS.out.2.2 hS)))
  have B6 := Lib.hid (B5.out.trans (n6.below.mono HBS.out.1))
  clear x6 n6 X5 V5 B5
  go_wp2_with fail
  refine (step3 mb S 8 4 V gm F b w6 V6.out HU.out X6.out).mono ?_
  rintro e w7 ⟨rfl, x7, n7⟩
  have X7 := Lib.hid x7
  have V7 := Lib.hid (V6.out.kept (w' := w7) (fun k hk hS => n7.block hk (fun e => by
    subst e
    rcases hS with hS | hS
    · exact HBS.out.2.1 hS
    · exact HBS.out.2.2 hS)))
  have B7 := Lib.hid (B6.out.trans (n7.below.mono HBS.out.1))
  clear x7 n7 X6 V6 B6
  have c5 : w7.cell? ⟨b, 5, none⟩ = some (.int .u64 77) := (cell_of_row _ _ 5 _ _ _ X7.out).trans rfl
  have c0 : w7.cell? ⟨b, 0, none⟩ = some (.int .u64 0) := (cell_of_row _ _ 0 _ _ _ X7.out).trans rfl
  have c19 : w7.cell? ⟨b, 19, none⟩ = some (.bool true) := (cell_of_row _ _ 19 _ _ _ X7.out).trans rfl
  have c22 : w7.cell? ⟨b, 22, none⟩ = some (.bool true) := (cell_of_row _ _ 22 _ _ _ X7.out).trans rfl
  have c18 : w7.cell? ⟨b, 18, none⟩ = some (.bool false) := (cell_of_row _ _ 18 _ _ _ X7.out).trans rfl
  have c16 : w7.cell? ⟨b, 16, none⟩ = some (.int .u64 65543) := (cell_of_row _ _ 16 _ _ _ X7.out).trans rfl
  clear X7 V7
  go_wp2_with fail
  go_ret
  exact ⟨rfl, B7.out⟩
end Go.Proofs.YtmnjkaimpejohaaGreatDoor
