/- Layer 15: an object that cannot be laid into an empty memory. -/
import Derived.Test.YtjiifaeehhpkcaaPlaceMap
namespace Go.Proofs.Ytjiifaeehhpkcaa
open Go.RowKit
set_option linter.unusedVariables false
set_option linter.unusedSimpArgs false

set_option maxRecDepth 100000 in
set_option maxHeartbeats 16000000 in
theorem pmap_p (mb : Nat) (S : Nat → Prop) (q : Nat) (g : Nat) (F : Nat → Option Nat) (C : Array Value) (x : POb) (from_ : Nat) (w : World) (h : VmAt w mb S q 0 (fun _ => none) g F) (hC : PCells w C x) (hfrom : from_ < 18446744073709551616) (hP : placeF x.ty x.bs.length x.ps ≠ 0) :
    Calls Try.prog 6 #[.pointer (some ⟨mb, 0, none⟩), .agg C, .int .u64 (from_ : Int)] w fun e w' => (∃ c : Nat, c ≠ 0 ∧ e = .returned (.tuple #[.int .u64 0, .iface 51 (.int .i64 (c : Int))])) ∧ Below w.heap.size w w' := by
  have h54 := hC.size
  have hone := hC.one
  have hc0 := hC.c0
  have HI := Lib.hid hC.info
  have B1 : Hid (Below w.heap.size w (w.alloc (.cells C 39))) := Lib.hid ((Below.refl _ _).alloc (Nat.le_refl _) _)
  have HX : Hid ((w.alloc (.cells C 39)).heap[w.heap.size]? = some (.cells C 39)) := Lib.hid (heap_alloc_new _ _)
  have HCK := Lib.hid (pcheck_any C x _ (hC.below B1.out))
  obtain ⟨P, hPe⟩ : ∃ P, placeF x.ty x.bs.length x.ps = P := ⟨_, rfl⟩
  rw [hPe] at hP HCK
  rw [errV_pos' hP] at HCK
  have HP := Lib.hid hP
  clear h hC hfrom hP hPe
  go_enter Try.func6, Try.ntmps6
  go_wp2_with (refine wpList_load_row rfl 39 _ rfl w.heap.size rfl 39 C (0, 0) _ HX.out Try.underlying39 rfl HI.out ?_)
  refine HCK.out.mono ?_
  rintro e w2 ⟨rfl, hb2⟩
  have B2 := Lib.hid (bstep B1.out hb2)
  clear hb2 HCK HX B1
  go_wp2_with fail
  go_ret2
  exact ⟨⟨P, HP.out, rfl⟩, B2.out⟩

set_option maxRecDepth 100000 in
set_option maxHeartbeats 16000000 in
theorem pmap_find (mb : Nat) (S : Nat → Prop) (q : Nat) (g : Nat) (F : Nat → Option Nat) (C : Array Value) (x : POb) (from_ : Nat) (w : World) (h : VmAt w mb S q 0 (fun _ => none) g F) (hC : PCells w C x) (hfrom : from_ < 18446744073709551616) (hP : placeF x.ty x.bs.length x.ps = 0) (h3 : x.ty = 3) (hfe : findE (spanN (pagedF (kindF 1 x.ps))) from_ = none) :
    Calls Try.prog 6 #[.pointer (some ⟨mb, 0, none⟩), .agg C, .int .u64 (from_ : Int)] w fun e w' => (∃ c : Nat, c ≠ 0 ∧ e = .returned (.tuple #[.int .u64 0, .iface 51 (.int .i64 (c : Int))])) ∧ Below w.heap.size w w' := by
  have h54 := hC.size
  have hone := hC.one
  have hc0 := hC.c0
  have HI := Lib.hid hC.info
  have B1 : Hid (Below w.heap.size w (w.alloc (.cells C 39))) := Lib.hid ((Below.refl _ _).alloc (Nat.le_refl _) _)
  have HX : Hid ((w.alloc (.cells C 39)).heap[w.heap.size]? = some (.cells C 39)) := Lib.hid (heap_alloc_new _ _)
  have HCK := Lib.hid (pcheck_any C x _ (hC.below B1.out))
  rw [hP, show errV ((0 : Nat) : Int) = .nilIface from rfl] at HCK
  have HSP : Hid (∀ wx, PCells wx C x → Calls Try.prog 20 #[.agg C] wx fun e w' => e = .returned (.tuple #[.int .u64 (beginF (pagedF (kindF 1 x.ps)) : Int), .int .i64 (spanN (pagedF (kindF 1 x.ps)) : Int)]) ∧ Below wx.heap.size wx w') := Lib.hid (fun wx hx => span_ok C x wx hx hP)
  have PL := placed_of hP
  have HCN := Lib.hid PL.count
  have HC0 := Lib.hid hC
  have H := Lib.hid h
  have HFR := Lib.hid hfrom
  have HFE := Lib.hid hfe
  clear h hC hfrom hP PL hfe
  generalize spanN (pagedF (kindF 1 x.ps)) = sn at *
  generalize beginF (pagedF (kindF 1 x.ps)) = bg at *
  rw [h3] at hc0
  go_enter Try.func6, Try.ntmps6
  go_wp2_with (refine wpList_load_row rfl 39 _ rfl w.heap.size rfl 39 C (0, 0) _ HX.out Try.underlying39 rfl HI.out ?_)
  refine HCK.out.mono ?_
  rintro e w2 ⟨rfl, hb2⟩
  have B2 := Lib.hid (bstep B1.out hb2)
  have HX2 := Lib.hid ((hb2.block _ (lt_of_block HX.out)).trans HX.out)
  clear hb2 HCK HX B1
  go_wp2_with (refine wpList_load_row rfl 39 _ rfl w.heap.size rfl 39 C (0, 0) _ HX2.out Try.underlying39 rfl HI.out ?_)
  refine (HSP.out w2 (HC0.out.below B2.out)).mono ?_
  rintro e w3 ⟨rfl, hb3⟩
  have B3 := Lib.hid (bstep B2.out hb3)
  have HX3 := Lib.hid ((hb3.block _ (lt_of_block HX2.out)).trans HX2.out)
  clear hb3 HSP HX2 B2
  have c0 := (cell_of_row _ _ 0 _ _ _ HX3.out).trans hc0
  have HF3 := Lib.hid (find_empty mb S q g F from_ sn w3 (H.out.below B3.out) HFR.out HCN.out.1 (by have := HCN.out; omega))
  rw [HFE.out, show findEV none = .tuple #[.int .u64 0, .iface 51 (.int .i64 7)] from rfl] at HF3
  go_wp2_with fail
  refine HF3.out.mono ?_
  rintro e w4 ⟨rfl, hb4⟩
  have B4 := Lib.hid (bstep B3.out hb4)
  clear hb4 HF3 HX3 B3 c0
  go_wp2_with fail
  go_ret2
  exact ⟨⟨7, by decide, rfl⟩, B4.out⟩

set_option maxRecDepth 100000 in
set_option maxHeartbeats 16000000 in
theorem pmap_full (mb : Nat) (S : Nat → Prop) (q : Nat) (g : Nat) (F : Nat → Option Nat) (C : Array Value) (x : POb) (from_ : Nat) (w : World) (h : VmAt w mb S q 0 (fun _ => none) g F) (hC : PCells w C x) (hfrom : from_ < 18446744073709551616) (at_ : Nat) (hP : placeF x.ty x.bs.length x.ps = 0) (hat3 : x.ty = 3 → findE (spanN (pagedF (kindF 1 x.ps))) from_ = some at_) (hat2 : x.ty = 2 → at_ = beginF (pagedF (kindF 1 x.ps))) (hq : q < spanN (pagedF (kindF 1 x.ps))) :
    Calls Try.prog 6 #[.pointer (some ⟨mb, 0, none⟩), .agg C, .int .u64 (from_ : Int)] w fun e w' => (∃ c : Nat, c ≠ 0 ∧ e = .returned (.tuple #[.int .u64 0, .iface 51 (.int .i64 (c : Int))])) ∧ Below w.heap.size w w' := by
  have h54 := hC.size
  have hone := hC.one
  have hc0 := hC.c0
  have HI := Lib.hid hC.info
  have B1 : Hid (Below w.heap.size w (w.alloc (.cells C 39))) := Lib.hid ((Below.refl _ _).alloc (Nat.le_refl _) _)
  have HX : Hid ((w.alloc (.cells C 39)).heap[w.heap.size]? = some (.cells C 39)) := Lib.hid (heap_alloc_new _ _)
  have HCK := Lib.hid (pcheck_any C x _ (hC.below B1.out))
  rw [hP, show errV ((0 : Nat) : Int) = .nilIface from rfl] at HCK
  have HSP : Hid (∀ wx, PCells wx C x → Calls Try.prog 20 #[.agg C] wx fun e w' => e = .returned (.tuple #[.int .u64 (beginF (pagedF (kindF 1 x.ps)) : Int), .int .i64 (spanN (pagedF (kindF 1 x.ps)) : Int)]) ∧ Below wx.heap.size wx w') := Lib.hid (fun wx hx => span_ok C x wx hx hP)
  have PL := placed_of hP
  have HCN := Lib.hid PL.count
  have HC0 := Lib.hid hC
  have H := Lib.hid h
  have HFR := Lib.hid hfrom
  have HATL : Hid (at_ % 4096 = 0 ∧ 4096 ≤ at_ ∧ at_ / 4096 + spanN (pagedF (kindF 1 x.ps)) ≤ 34359738368 ∧ at_ < 140737488355328) := Lib.hid (by
    have hspan := PL.span
    rcases PL.kinds with h2 | h3
    · obtain rfl := hat2 h2
      have h4 := PL.first h2
      have e2 : beginF (pagedF (kindF 1 x.ps)) % 4096 = 0 := by unfold beginF downF; omega
      unfold spanN at *
      omega
    · have := findE_some (hat3 h3)
      omega)
  have HBG : Hid (beginF (pagedF (kindF 1 x.ps)) % 4096 = 0 ∧ beginF (pagedF (kindF 1 x.ps)) < 140737488355328) := Lib.hid ⟨by unfold beginF downF; omega, by have := PL.span; omega⟩
  have hty := PL.kinds
  have HA3 := Lib.hid hat3
  have HA2 := Lib.hid hat2
  have HQ := Lib.hid hq
  clear h hC hfrom hP PL hat3 hat2 hq
  generalize spanN (pagedF (kindF 1 x.ps)) = sn at *
  generalize beginF (pagedF (kindF 1 x.ps)) = bg at *
  have HMAP : Hid (∀ wx, VmAt wx mb S q 0 (fun _ => none) g F → Calls Try.prog 22 #[.pointer (some ⟨mb, 0, none⟩), .int .u64 (at_ : Int), .int .i64 (sn : Int), .int .i64 0] wx fun e w' => e = .returned (.iface 51 (.int .i64 7)) ∧ Below wx.heap.size wx w') := Lib.hid (fun wx hx =>
    map_full mb S q 0 (fun _ => none) g F at_ (sn : Int) 0 wx hx (by have := HATL.out; omega) (by have := HCN.out; omega) (checkF_zero (perm := 0) HCN.out.1 (by decide) HATL.out.1 HATL.out.2.1 HATL.out.2.2.1) (takeF_none (fun _ _ _ => rfl)) (by have := HQ.out; omega))
  go_enter Try.func6, Try.ntmps6
  go_wp2_with (refine wpList_load_row rfl 39 _ rfl w.heap.size rfl 39 C (0, 0) _ HX.out Try.underlying39 rfl HI.out ?_)
  refine HCK.out.mono ?_
  rintro e w2 ⟨rfl, hb2⟩
  have B2 := Lib.hid (bstep B1.out hb2)
  have HX2 := Lib.hid ((hb2.block _ (lt_of_block HX.out)).trans HX.out)
  clear hb2 HCK HX B1
  go_wp2_with (refine wpList_load_row rfl 39 _ rfl w.heap.size rfl 39 C (0, 0) _ HX2.out Try.underlying39 rfl HI.out ?_)
  refine (HSP.out w2 (HC0.out.below B2.out)).mono ?_
  rintro e w3 ⟨rfl, hb3⟩
  have B3 := Lib.hid (bstep B2.out hb3)
  have HX3 := Lib.hid ((hb3.block _ (lt_of_block HX2.out)).trans HX2.out)
  clear hb3 HSP HX2 B2
  have c0 := (cell_of_row _ _ 0 _ _ _ HX3.out).trans hc0
  rcases hty with h2 | h3
  · have hat := HA2.out h2
    have e2 : IntKind.u64.wrap (bg : Int) = (bg : Int) := by rw [IntKind.wrap_u64]; have := HBG.out; omega
    rw [h2] at c0
    go_wp2_with fail
    clear e2 c0
    rw [← hat]
    refine (HMAP.out w3 (H.out.below B3.out)).mono ?_
    rintro e w5 ⟨rfl, hb5⟩
    have B5 := Lib.hid (bstep B3.out hb5)
    clear hb5 HMAP HX3
    go_wp2_with fail
    go_ret2
    exact ⟨⟨7, by decide, rfl⟩, B5.out⟩
  · have HF3 := Lib.hid (find_empty mb S q g F from_ sn w3 (H.out.below B3.out) HFR.out HCN.out.1 (by have := HCN.out; omega))
    rw [HA3.out h3] at HF3
    rw [h3] at c0
    go_wp2_with fail
    refine HF3.out.mono ?_
    rintro e w4 ⟨rfl, hb4⟩
    have B4 := Lib.hid (bstep B3.out hb4)
    obtain ⟨base, hb1, hb2⟩ : ∃ base : Nat, IntKind.u64.wrap ((at_ : Int) - (bg : Int)) = (base : Int) ∧ IntKind.u64.wrap ((base : Int) + (bg : Int)) = (at_ : Int) := ⟨(at_ + 18446744073709551616 - bg) % 18446744073709551616, by rw [IntKind.wrap_u64]; have := HATL.out; have := HBG.out; omega, by rw [IntKind.wrap_u64]; have := HATL.out; have := HBG.out; omega⟩
    unfold findEV
    clear hb4 HF3 HX3 c0
    go_wp2_with fail
    clear hb1 hb2
    refine (HMAP.out w4 (H.out.below B4.out)).mono ?_
    rintro e w5 ⟨rfl, hb5⟩
    have B5 := Lib.hid (bstep B4.out hb5)
    clear hb5 HMAP
    go_wp2_with fail
    go_ret2
    exact ⟨⟨7, by decide, rfl⟩, B5.out⟩
end Go.Proofs.Ytjiifaeehhpkcaa
