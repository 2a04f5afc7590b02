/- Layer 15: PlaceNil. -/
import Derived.Test.YtjiifaeehhpkcaaPlaceUp
import Derived.Test.YtjiifaeehhpkcaaPlaceRc
import Derived.Test.YtjiifaeehhpkcaaVmRead
import Derived.Test.YtjiifaeehhpkcaaPlaceOpen
namespace Go.Proofs.Ytjiifaeehhpkcaa
open Go.RowKit
set_option linter.unusedVariables false
set_option linter.unusedSimpArgs false

set_option maxRecDepth 100000 in
set_option maxHeartbeats 32000000 in
theorem nil_at (C : Array Value) (x : POb) (base : Nat) (W : World) (h : PCells W C x) (hb : base < 18446744073709551616) :
    Calls Try.prog 3 #[.agg C, .int .u64 (base : Int)] W fun e w' => e = .returned (.bool true) ∧ Below W.heap.size W w' := by
  have h54 := h.size
  have hone := h.one
  have HI := Lib.hid h.info
  have B1 : Hid (Below W.heap.size W (W.alloc (.cells C 39))) := Lib.hid ((Below.refl _ _).alloc (Nat.le_refl _) _)
  have HX : Hid ((W.alloc (.cells C 39)).heap[W.heap.size]? = some (.cells C 39)) := Lib.hid (heap_alloc_new _ _)
  have HXF : Hid (∀ wx, Below (W.alloc (.cells C 39)).heap.size (W.alloc (.cells C 39)) wx → wx.heap[W.heap.size]? = some (.cells C 39) ∧ PCells wx C x) := Lib.hid (fun wx hx => ⟨(hx.block _ (lt_of_block HX.out)).trans HX.out, h.below (bstep B1.out hx)⟩)
  have HUP := Lib.hid (up_place (W.alloc (.cells C 39)))
  have HN1 : Hid (∀ wx, Calls Try.prog 6 #[.pointer none, .agg C, .int .u64 (base : Int)] wx fun e w' => e = .returned (.tuple #[.int .u64 0, .iface 51 (.int .i64 1)]) ∧ Below wx.heap.size wx w') := Lib.hid (fun wx => map_nil C base wx h54 hone)
  have HN2 : Hid (∀ wx, Calls Try.prog 7 #[.pointer none, .agg C, .int .u64 (base : Int)] wx fun e w' => e = .returned (.iface 51 (.int .i64 1)) ∧ Below wx.heap.size wx w') := Lib.hid (fun wx => unmap_nil C base wx h54 hone)
  have HN3 : Hid (∀ wx, Calls Try.prog 8 #[.pointer none, .agg C, .int .u64 (base : Int)] wx fun e w' => e = .returned (.iface 51 (.int .i64 1)) ∧ Below wx.heap.size wx w') := Lib.hid (fun wx => seal_nil C base wx h54 hone)
  have HRC : Hid (∀ wx, PCells wx C x → Calls Try.prog 10 #[.agg C] wx fun e w' => e = .returned (.int .i64 (placeF x.ty x.bs.length x.ps : Int)) ∧ Below wx.heap.size wx w') := Lib.hid (fun wx hx => rcheck_any C x wx hx)
  have HPLT := Lib.hid (placeF_lt x.ty x.bs.length x.ps)
  have HUN : Hid (∀ (mb : Nat) (S : Nat → Prop) (q g : Nat) (F : Nat → Option Nat) (wx : World), PCells wx C x → VmAt wx mb S q 0 (fun _ => none) g F → Calls Try.prog 7 #[.pointer (some ⟨mb, 0, none⟩), .agg C, .int .u64 (base : Int)] wx fun e w' => (∃ v, e = .returned v ∧ (placeF x.ty x.bs.length x.ps ≠ 0 → v = errV (placeF x.ty x.bs.length x.ps : Int))) ∧ Below wx.heap.size wx w') := Lib.hid (fun mb S q g F wx hx hm => unmap_empty C x base mb S q g F wx hx hm hb)
  have HSL : Hid (∀ (mb : Nat) (S : Nat → Prop) (q g : Nat) (F : Nat → Option Nat) (wx : World), PCells wx C x → VmAt wx mb S q 0 (fun _ => none) g F → Calls Try.prog 8 #[.pointer (some ⟨mb, 0, none⟩), .agg C, .int .u64 (base : Int)] wx fun e w' => (∃ v, e = .returned v ∧ (placeF x.ty x.bs.length x.ps ≠ 0 → v = errV (placeF x.ty x.bs.length x.ps : Int))) ∧ Below wx.heap.size wx w') := Lib.hid (fun mb S q g F wx hx hm => seal_empty C x base mb S q g F wx hx hm hb)
  clear h hb
  generalize placeF x.ty x.bs.length x.ps = P at *
  go_enter Try.func3, Try.ntmps3
  go_wp2_with fail
  refine HUP.out.mono ?_
  rintro e w2 ⟨rfl, hb2⟩
  have B2 := Lib.hid hb2
  generalize W.alloc (.cells C 39) = w1 at *
  have HX2 := Lib.hid (HXF.out w2 B2.out).1
  clear hb2 HUP HX
  go_wp2_with (refine wpList_load_row rfl 39 _ rfl W.heap.size rfl 39 C (0, 0) _ HX2.out Try.underlying39 rfl HI.out ?_)
  refine (HN1.out w2).mono ?_
  rintro e w3 ⟨rfl, hb3⟩
  have B3 := Lib.hid (bstep B2.out hb3)
  have HX3 := Lib.hid (HXF.out w3 B3.out).1
  clear hb3 HX2 HN1
  go_wp2_with (refine wpList_load_row rfl 39 _ rfl W.heap.size rfl 39 C (0, 0) _ HX3.out Try.underlying39 rfl HI.out ?_)
  refine (HN2.out w3).mono ?_
  rintro e w4 ⟨rfl, hb4⟩
  have B4 := Lib.hid (bstep B3.out hb4)
  have HX4 := Lib.hid (HXF.out w4 B4.out).1
  clear hb4 HX3 HN2
  go_wp2_with (refine wpList_load_row rfl 39 _ rfl W.heap.size rfl 39 C (0, 0) _ HX4.out Try.underlying39 rfl HI.out ?_)
  refine (HN3.out w4).mono ?_
  rintro e w5 ⟨rfl, hb5⟩
  have B5 := Lib.hid (bstep B4.out hb5)
  have HNEW := Lib.hid (vnew_any 4 w5 (by omega))
  clear hb5 HX4 HN3
  go_wp2_with fail
  refine HNEW.out.mono ?_
  rintro e w6 ⟨rfl, hb6, hs6, hv6⟩
  have B6 := Lib.hid (bstep B5.out hb6)
  have V6 := Lib.hid hv6
  have HX6 := Lib.hid (HXF.out w6 B6.out).1
  have HRC6 := Lib.hid (HRC.out w6 (HXF.out w6 B6.out).2)
  clear hb6 hs6 hv6 HNEW HRC
  generalize w5.heap.size = gb at *
  go_wp2_with (refine wpList_load_row rfl 39 _ rfl W.heap.size rfl 39 C (0, 0) _ HX6.out Try.underlying39 rfl HI.out ?_)
  refine HRC6.out.mono ?_
  rintro e w7 ⟨rfl, hb7⟩
  have B7 := Lib.hid (bstep B6.out hb7)
  have V7 := Lib.hid (V6.out.below hb7)
  have HX7 := Lib.hid (HXF.out w7 B7.out).1
  have HU7 := Lib.hid (HUN.out _ _ _ _ _ w7 (HXF.out w7 B7.out).2 V7.out)
  clear hb7 V6 HX6 HRC6 HUN
  go_wp2_with (refine wpList_load_row rfl 39 _ rfl W.heap.size rfl 39 C (0, 0) _ HX7.out Try.underlying39 rfl HI.out ?_)
  refine HU7.out.mono ?_
  rintro e w8 ⟨⟨v1, rfl, hv1⟩, hb8⟩
  have B8 := Lib.hid (bstep B7.out hb8)
  have V8 := Lib.hid (V7.out.below hb8)
  have HX8 := Lib.hid (HXF.out w8 B8.out).1
  have HS8 := Lib.hid (HSL.out _ _ _ _ _ w8 (HXF.out w8 B8.out).2 V8.out)
  have HV1 := Lib.hid hv1
  clear hb8 V7 HX7 HU7 HSL hv1
  go_wp2_with (refine wpList_load_row rfl 39 _ rfl W.heap.size rfl 39 C (0, 0) _ HX8.out Try.underlying39 rfl HI.out ?_)
  refine HS8.out.mono ?_
  rintro e w9 ⟨⟨v2, rfl, hv2⟩, hb9⟩
  have B9 := Lib.hid (bstep B8.out hb9)
  have V9 := Lib.hid (V8.out.below hb9)
  have HV2 := Lib.hid hv2
  have BW := Lib.hid (bstep B1.out B9.out)
  have HUS := Lib.hid (used_any _ _ _ _ _ _ _ w9 V9.out)
  clear hb9 V8 HX8 HS8 hv2 HXF
  have he := run_eql_code
  by_cases hp : P = 0
  · have m0 : ((P : Int) != 0) = false := by rw [bne_eq_false_iff_eq]; omega
    clear hp HV1 HV2
    go_wp2_with fail
    refine HUS.out.mono ?_
    rintro e w' ⟨rfl, rfl⟩
    go_wp2_with fail
    go_ret
    exact ⟨rfl, BW.out⟩
  · have m0 : ((P : Int) != 0) = true := by rw [bne_iff_ne]; omega
    have m1 : ((P : Int) != (P : Int)) = false := by simp
    have h1 := HV1.out hp
    have h2 := HV2.out hp
    subst h1 h2
    have HCD := Lib.hid (code_any (P : Int) w9 (by omega) (by have := HPLT.out; omega))
    clear hp HV1 HV2
    go_wp2_with fail
    refine HCD.out.mono ?_
    rintro e w' ⟨rfl, rfl⟩
    go_wp2_with fail
    refine HCD.out.mono ?_
    rintro e w' ⟨rfl, rfl⟩
    go_wp2_with fail
    refine HUS.out.mono ?_
    rintro e w' ⟨rfl, rfl⟩
    go_wp2_with fail
    go_ret
    exact ⟨rfl, BW.out⟩
theorem walk_PlaceNil (C : Array Value) (x : POb) (base : Int) (W : World) (h : PCells W C x) (hb : (Lit.int .u64 base).wf = true) :
    Calls Try.prog 3 #[.agg C, .int .u64 base] W fun e w' => e = .returned (.bool true) ∧ Below W.heap.size W w' := by
  obtain ⟨m, rfl, b⟩ := wf_u64_nat hb
  exact nil_at C x m W h b
end Go.Proofs.Ytjiifaeehhpkcaa
