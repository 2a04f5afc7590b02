/- Layer 4: the program headers are read, one behind the other. -/
import Derived.Test.YtmjfkcclhbpclaaDoorHeadMake
import Derived.Test.YtmjfkcclhbpclaaDoorStepS
import Derived.Test.YtmjfkcclhbpclaaDoorBox
import Derived.Deep.RegionLaw
namespace Go.Proofs.YtmjfkcclhbpclaaDoor
open Go.RowKit
set_option linter.unusedVariables false
set_option linter.unusedSimpArgs false

/-- bytes as a slice value -/
structure BSl (w : World) (a : Option Addr) (m cap : Nat) (bs : List Nat) : Prop where
  row : BRow w a bs
  len : bs.length = m
  most : m ≤ 1048576
  none : a = none → m = 0 ∧ cap = 0
  cap : m ≤ cap
theorem BSl.below {w w' : World} {a : Option Addr} {m cap : Nat} {bs : List Nat} (h : BSl w a m cap bs) (hb : Below w.heap.size w w') : BSl w' a m cap bs := ⟨h.row.below hb, h.len, h.most, h.none, h.cap⟩
theorem BSl.number {w : World} {a : Option Addr} {m cap : Nat} {bs : List Nat} (h : BSl w a m cap bs) (at_ n : Nat) (ha : at_ < 18446744073709551616) (hw : wide n = true) : Calls Tryd.prog 44 #[.slice a m cap, .int .u64 (at_ : Int), .int .i64 (n : Int)] w fun e w' => e = .returned (.int .u64 (numF bs at_ n : Int)) ∧ Below w.heap.size w w' := number_any a m cap at_ n bs w h.row h.len (by have := h.most; omega) h.none h.cap ha hw
set_option maxRecDepth 100000 in
set_option maxHeartbeats 8000000 in
theorem prog_any (a : Option Addr) (m cap : Nat) (bs : List Nat) (w : World) (h : BSl w a m cap bs) :
    Calls Tryd.prog 47 #[.slice a m cap] w fun e w' => e = .returned (progF bs).hv ∧ Below w.heap.size w w' := by
  have hwf := progF_wf h.row.2
  have HN : Hid (∀ (at_ n : Nat) wx, at_ < 18446744073709551616 → wide n = true → Below w.heap.size w wx → Calls Tryd.prog 44 #[.slice a m cap, .int .u64 (at_ : Int), .int .i64 (n : Int)] wx fun e w' => e = .returned (.int .u64 (numF bs at_ n : Int)) ∧ Below wx.heap.size wx w') := Lib.hid (fun at_ n wx ha hw hb => (h.below hb).number at_ n ha hw)
  have N0 : Hid (∀ wx, Below w.heap.size w wx → Calls Tryd.prog 44 #[.slice a m cap, .int .u64 0, .int .i64 4] wx fun e w' => e = .returned (.int .u64 (numF bs 0 4 : Int)) ∧ Below wx.heap.size wx w') := Lib.hid (fun wx hb => HN.out 0 4 wx (by decide) (by decide) hb)
  have N1 : Hid (∀ wx, Below w.heap.size w wx → Calls Tryd.prog 44 #[.slice a m cap, .int .u64 4, .int .i64 4] wx fun e w' => e = .returned (.int .u64 (numF bs 4 4 : Int)) ∧ Below wx.heap.size wx w') := Lib.hid (fun wx hb => HN.out 4 4 wx (by decide) (by decide) hb)
  have N2 : Hid (∀ wx, Below w.heap.size w wx → Calls Tryd.prog 44 #[.slice a m cap, .int .u64 8, .int .i64 8] wx fun e w' => e = .returned (.int .u64 (numF bs 8 8 : Int)) ∧ Below wx.heap.size wx w') := Lib.hid (fun wx hb => HN.out 8 8 wx (by decide) (by decide) hb)
  have N3 : Hid (∀ wx, Below w.heap.size w wx → Calls Tryd.prog 44 #[.slice a m cap, .int .u64 16, .int .i64 8] wx fun e w' => e = .returned (.int .u64 (numF bs 16 8 : Int)) ∧ Below wx.heap.size wx w') := Lib.hid (fun wx hb => HN.out 16 8 wx (by decide) (by decide) hb)
  have N4 : Hid (∀ wx, Below w.heap.size w wx → Calls Tryd.prog 44 #[.slice a m cap, .int .u64 32, .int .i64 8] wx fun e w' => e = .returned (.int .u64 (numF bs 32 8 : Int)) ∧ Below wx.heap.size wx w') := Lib.hid (fun wx hb => HN.out 32 8 wx (by decide) (by decide) hb)
  have N5 : Hid (∀ wx, Below w.heap.size w wx → Calls Tryd.prog 44 #[.slice a m cap, .int .u64 40, .int .i64 8] wx fun e w' => e = .returned (.int .u64 (numF bs 40 8 : Int)) ∧ Below wx.heap.size wx w') := Lib.hid (fun wx hb => HN.out 40 8 wx (by decide) (by decide) hb)
  have N6 : Hid (∀ wx, Below w.heap.size w wx → Calls Tryd.prog 44 #[.slice a m cap, .int .u64 48, .int .i64 8] wx fun e w' => e = .returned (.int .u64 (numF bs 48 8 : Int)) ∧ Below wx.heap.size wx w') := Lib.hid (fun wx hb => HN.out 48 8 wx (by decide) (by decide) hb)
  obtain ⟨hw0, hw1, -⟩ := hwf
  unfold progF at *
  simp only [] at hw0 hw1
  clear HN h
  generalize numF bs 0 4 = a0 at *
  generalize numF bs 4 4 = a1 at *
  generalize numF bs 8 8 = a2 at *
  generalize numF bs 16 8 = a3 at *
  generalize numF bs 32 8 = a4 at *
  generalize numF bs 40 8 = a5 at *
  generalize numF bs 48 8 = a6 at *
  have u0 : IntKind.u32.wrap (a0 : Int) = (a0 : Int) := by rw [IntKind.wrap_u32]; omega
  have u1 : IntKind.u32.wrap (a1 : Int) = (a1 : Int) := by rw [IntKind.wrap_u32]; omega
  obtain ⟨vb, hvb⟩ : ∃ vb, w.heap.size = vb := ⟨_, rfl⟩
  obtain ⟨w1, hw1'⟩ : ∃ w1, w.alloc (.cells #[.int .u32 0, .int .u32 0, .int .u64 0, .int .u64 0, .int .u64 0, .int .u64 0, .int .u64 0] 37) = w1 := ⟨_, rfl⟩
  have B1 : Hid (Below w.heap.size w w1) := Lib.hid (by rw [← hw1']; exact ballo (Below.refl _ _) _)
  have X1 : Hid (w1.heap[vb]? = some (.cells #[.int .u32 0, .int .u32 0, .int .u64 0, .int .u64 0, .int .u64 0, .int .u64 0, .int .u64 0] 37)) := Lib.hid (by rw [← hw1', ← hvb]; exact heap_alloc_new _ _)
  have HI : Hid ((Tryd.prog.info? 37).map (·.size) = some (#[.int .u32 (a0 : Int), .int .u32 (a1 : Int), .int .u64 (a2 : Int), .int .u64 (a3 : Int), .int .u64 (a4 : Int), .int .u64 (a5 : Int), .int .u64 (a6 : Int)] : Array Value).size) := Lib.hid (by kernel_rfl)
  have HO : Hid ((#[.int .u32 (a0 : Int), .int .u32 (a1 : Int), .int .u64 (a2 : Int), .int .u64 (a3 : Int), .int .u64 (a4 : Int), .int .u64 (a5 : Int), .int .u64 (a6 : Int)] : Array Value).all (·.oneCell') = true) := Lib.hid (by simp [Value.oneCell'])
  have HW1 := Lib.hid hw1'
  have HVB := Lib.hid hvb
  unfold PT.hv PT.cells
  simp only []
  clear hw0 hw1 hw1'
  go_enter Tryd.func47, Tryd.ntmps47
  go_wp2_with fail
  rw [HW1.out]
  refine (N0.out w1 B1.out).mono ?_
  rintro e w2 ⟨rfl, hb⟩
  have B2 := Lib.hid (bstep B1.out hb)
  have X2 := Lib.hid ((hb.block _ (lt_of_block X1.out)).trans X1.out)
  clear hb
  go_wp2_with fail
  refine (N1.out w2 B2.out).mono ?_
  rintro e w3 ⟨rfl, hb⟩
  have B3 := Lib.hid (bstep B2.out hb)
  have X3 := Lib.hid ((hb.block _ (lt_of_block X2.out)).trans X2.out)
  clear hb
  go_wp2_with fail
  refine (N2.out w3 B3.out).mono ?_
  rintro e w4 ⟨rfl, hb⟩
  have B4 := Lib.hid (bstep B3.out hb)
  have X4 := Lib.hid ((hb.block _ (lt_of_block X3.out)).trans X3.out)
  clear hb
  go_wp2_with fail
  refine (N3.out w4 B4.out).mono ?_
  rintro e w5 ⟨rfl, hb⟩
  have B5 := Lib.hid (bstep B4.out hb)
  have X5 := Lib.hid ((hb.block _ (lt_of_block X4.out)).trans X4.out)
  clear hb
  go_wp2_with fail
  refine (N4.out w5 B5.out).mono ?_
  rintro e w6 ⟨rfl, hb⟩
  have B6 := Lib.hid (bstep B5.out hb)
  have X6 := Lib.hid ((hb.block _ (lt_of_block X5.out)).trans X5.out)
  clear hb
  go_wp2_with fail
  refine (N5.out w6 B6.out).mono ?_
  rintro e w7 ⟨rfl, hb⟩
  have B7 := Lib.hid (bstep B6.out hb)
  have X7 := Lib.hid ((hb.block _ (lt_of_block X6.out)).trans X6.out)
  clear hb
  go_wp2_with fail
  refine (N6.out w7 B7.out).mono ?_
  rintro e w8 ⟨rfl, hb⟩
  have B8 := Lib.hid (bstep B7.out hb)
  have X8 := Lib.hid ((hb.block _ (lt_of_block X7.out)).trans X7.out)
  clear hb
  obtain ⟨w9, hw9⟩ : ∃ w9, w8.setRow vb #[.int .u32 (a0 : Int), .int .u32 (a1 : Int), .int .u64 (a2 : Int), .int .u64 (a3 : Int), .int .u64 (a4 : Int), .int .u64 (a5 : Int), .int .u64 (a6 : Int)] = w9 := ⟨_, rfl⟩
  have HW9 := Lib.hid hw9
  have Y9 : Hid (w9.heap[vb]? = some (.cells #[.int .u32 (a0 : Int), .int .u32 (a1 : Int), .int .u64 (a2 : Int), .int .u64 (a3 : Int), .int .u64 (a4 : Int), .int .u64 (a5 : Int), .int .u64 (a6 : Int)] 37)) := Lib.hid (by rw [← hw9]; exact setRow_heap _ _ _ _ _ _ X8.out)
  have B9 : Hid (Below w.heap.size w w9) := Lib.hid (by rw [← hw9]; exact below_setRow B8.out (by have := HVB.out; omega) _)
  clear hw9
  go_wp2_with (refine wpList_store_row rfl 37 _ _ rfl vb #[.int .u32 (a0 : Int), .int .u32 (a1 : Int), .int .u64 (a2 : Int), .int .u64 (a3 : Int), .int .u64 (a4 : Int), .int .u64 (a5 : Int), .int .u64 (a6 : Int)] rfl rfl 37 _ X8.out HI.out rfl HO.out ?_; rw [HW9.out])
  refine bodyPost_ret_by (results_cell_row Tryd.results47 _ _ vb 37 #[.int .u32 (a0 : Int), .int .u32 (a1 : Int), .int .u64 (a2 : Int), .int .u64 (a3 : Int), .int .u64 (a4 : Int), .int .u64 (a5 : Int), .int .u64 (a6 : Int)] (0, 0) _ rfl Y9.out Tryd.underlying37 rfl HI.out) (by rfl) ?_
  exact ⟨rfl, by first | exact B9.out | (rw [HVB.out] at B9; exact B9.out)⟩
end Go.Proofs.YtmjfkcclhbpclaaDoor
