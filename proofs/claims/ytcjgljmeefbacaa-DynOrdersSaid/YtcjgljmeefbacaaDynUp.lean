/- Layer 5: the examples at the head of all statements. -/
import Derived.Test.YtcjgljmeefbacaaDynRead
import Derived.Test.YtcjgljmeefbacaaMakeN
import Derived.Test.YtcjgljmeefbacaaGrow
import Derived.Deep.LoopGhost
import Derived.Deep.QuietTactic
import Derived.BigQuiet
import Derived.Carry
namespace Go.Proofs.Ytcjgljmeefbacaa
open Go.RowKit
set_option linter.unusedVariables false
set_option linter.unusedSimpArgs false

theorem slice8q : IntSlice Try.prog 24 5 .u8 1 := ⟨Try.underlying24, by kernel_rfl⟩
def upPs : List PT := [⟨1, 0, 0, 4096, 512, 0, 0⟩, ⟨2, 0, 256, 0, 256, 0, 0⟩]
def upL : List Nat := [5, 4096, 10, 8, 6, 4112, 4, 4128, 1, 1, 1, 3]
def upB : Nat → List Nat
  | 0 => List.replicate 512 0
  | k + 1 => ((upB k).set (256 + 8 * k) (upL.getD k 0 % 256)).set (257 + 8 * k) (upL.getD k 0 / 256)
theorem upB_length : ∀ k, (upB k).length = 512
  | 0 => List.length_replicate
  | k + 1 => by rw [upB, List.length_set, List.length_set, upB_length k]
theorem upB_lt : ∀ k, k ≤ 12 → ∀ b ∈ upB k, b < 256 := by decide +kernel
def upCheck : Bool := match dynRF (upB 12) upPs with
  | .ok (some (ns, m)) => ns == [1, 3] && gv m 5 == 4096 && gv m 4 == 4128
  | _ => false
theorem upCheck_ok : upCheck = true := by decide +kernel
theorem up_read : ∃ ns m, dynRF (upB 12) upPs = .ok (some (ns, m)) ∧ ns = [1, 3] ∧ gv m 5 = 4096 ∧ gv m 4 = 4128 := by
  have h := upCheck_ok
  unfold upCheck at h
  split at h
  · rename_i ns m e
    simp only [Bool.and_eq_true, beq_iff_eq] at h
    exact ⟨ns, m, e, h.1.1, h.1.2, h.2⟩
  · cases h
theorem up_off1 : offF upPs 4112 496 = (16, 0) := by decide +kernel
theorem up_off2 : offF upPs 4112 497 = (0, 4) := by decide +kernel
theorem up_wf0 : PT.wf ⟨1, 0, 0, 4096, 512, 0, 0⟩ := by unfold PT.wf; decide
theorem up_wf1 : PT.wf ⟨2, 0, 256, 0, 256, 0, 0⟩ := by unfold PT.wf; decide
theorem up_row {w : World} {b : Nat} (h : w.heap[b]? = some (.cells #[.int .u32 1, .int .u32 0, .int .u64 0, .int .u64 4096, .int .u64 512, .int .u64 0, .int .u64 0, .int .u32 2, .int .u32 0, .int .u64 256, .int .u64 0, .int .u64 256, .int .u64 0, .int .u64 0] 40)) : PRow w (some ⟨b, 0, none⟩) upPs := by
  intro i hi
  have hi2 : i = 0 ∨ i = 1 := by have : i < 2 := hi; omega
  rcases hi2 with rfl | rfl
  · refine ⟨up_wf0, b, 0, rfl, lt_of_block h, fun j hj => ?_⟩
    rw [cell_of_row _ _ _ _ _ _ h]
    have hj2 : j = 0 ∨ j = 1 ∨ j = 2 ∨ j = 3 ∨ j = 4 ∨ j = 5 ∨ j = 6 := by omega
    rcases hj2 with rfl | rfl | rfl | rfl | rfl | rfl | rfl <;> rfl
  · refine ⟨up_wf1, b, 0, rfl, lt_of_block h, fun j hj => ?_⟩
    rw [cell_of_row _ _ _ _ _ _ h]
    have hj2 : j = 0 ∨ j = 1 ∨ j = 2 ∨ j = 3 ∨ j = 4 ∨ j = 5 ∨ j = 6 := by omega
    rcases hj2 with rfl | rfl | rfl | rfl | rfl | rfl | rfl <;> rfl

theorem block_setOther (w : World) (a : Addr) (u : Value) (k : Nat) (h : k ≠ a.block) : (w.setCell a u).heap[k]? = w.heap[k]? := by
  unfold World.setCell
  simp [Array.getElem?_modify, Ne.symm h]
theorem errZ : errV ((0 : Nat) : Int) = .nilIface := rfl
theorem err4 : errV ((4 : Nat) : Int) = .iface 49 (.int .i64 4) := rfl
/-- what stands in the blocks of the examples -/
structure UpSt (w wx : World) : Prop where
  below : Below w.heap.size w wx
  progs : wx.heap[w.heap.size]? = some (.cells #[.int .u32 1, .int .u32 0, .int .u64 0, .int .u64 4096, .int .u64 512, .int .u64 0, .int .u64 0, .int .u32 2, .int .u32 0, .int .u64 256, .int .u64 0, .int .u64 256, .int .u64 0, .int .u64 0] 40)
  head : wx.heap[w.heap.size + 1]? = some (.cells #[.int .i64 0, .int .u64 0, .slice (some ⟨w.heap.size, 0, none⟩) 2 2] 43)
theorem UpSt.go {w wx wy : World} (h : UpSt w wx) (hb : Below wx.heap.size wx wy) : UpSt w wy := ⟨bstep h.below hb, (hb.block _ (lt_of_block h.progs)).trans h.progs, (hb.block _ (lt_of_block h.head)).trans h.head⟩
theorem UpSt.size {w wx : World} (h : UpSt w wx) : w.heap.size + 1 < wx.heap.size := lt_of_block h.head
def upBt (k : Nat) : Nat := upL.getD k 0
theorem upBt_lt : ∀ k, k < 12 → upBt k < 65536 := by decide
theorem upL_at (k : Nat) (hk : k < 12) : (#[.int .u64 5, .int .u64 4096, .int .u64 10, .int .u64 8, .int .u64 6, .int .u64 4112, .int .u64 4, .int .u64 4128, .int .u64 1, .int .u64 1, .int .u64 1, .int .u64 3] : Array Value)[k]? = some (.int .u64 ((upBt k : Nat) : Int)) := by
  have : k = 0 ∨ k = 1 ∨ k = 2 ∨ k = 3 ∨ k = 4 ∨ k = 5 ∨ k = 6 ∨ k = 7 ∨ k = 8 ∨ k = 9 ∨ k = 10 ∨ k = 11 := by omega
  rcases this with rfl | rfl | rfl | rfl | rfl | rfl | rfl | rfl | rfl | rfl | rfl | rfl <;> rfl
theorem upB_get (k j : Nat) (hj : j < 512) : ∃ y, (toI (upB k))[j]? = some y := by
  have : j < (toI (upB k)).length := by rw [toI_length, upB_length]; exact hj
  exact ⟨_, List.getElem?_eq_getElem this⟩

set_option maxRecDepth 100000 in
set_option maxHeartbeats 8000000 in
theorem up_dyn (w : World) : Calls Try.prog 4 #[] w fun e w' => e = .returned (.bool true) ∧ Below w.heap.size w w' := by
  have key : ∀ wz, wz = (w.alloc (.cells #[.int .u32 1, .int .u32 0, .int .u64 0, .int .u64 4096, .int .u64 512, .int .u64 0, .int .u64 0, .int .u32 2, .int .u32 0, .int .u64 256, .int .u64 0, .int .u64 256, .int .u64 0, .int .u64 0] 40)).alloc (.cells #[.int .i64 0, .int .u64 0, .slice (some ⟨w.heap.size, 0, none⟩) 2 2] 43) → UpSt w wz := by
    rintro wz rfl
    refine ⟨((Below.refl _ _).alloc (Nat.le_refl _) _).alloc (by simp) _, ?_, ?_⟩
    · rw [heap_alloc_old _ _ (by simp)]
      exact heap_alloc_new _ _
    · have := heap_alloc_new (w.alloc (.cells #[.int .u32 1, .int .u32 0, .int .u64 0, .int .u64 4096, .int .u64 512, .int .u64 0, .int .u64 0, .int .u32 2, .int .u32 0, .int .u64 256, .int .u64 0, .int .u64 256, .int .u64 0, .int .u64 0] 40)) (.cells #[.int .i64 0, .int .u64 0, .slice (some ⟨w.heap.size, 0, none⟩) 2 2] 43)
      simpa using this
  have K1 := Lib.hid (key _ rfl)
  clear key
  have HOF : Hid (∀ wx, UpSt w wx → Calls Try.prog 10 #[.agg #[.int .i64 0, .int .u64 0, .slice (some ⟨w.heap.size, 0, none⟩) 2 2], .int .u64 4112, .int .u64 496] wx fun e w' => e = .returned (.tuple #[.int .u64 16, .nilIface]) ∧ Below wx.heap.size wx w') := Lib.hid (fun wx hx => by
    have := offset_any 0 0 (some ⟨w.heap.size, 0, none⟩) 2 upPs 4112 496 wx (up_row hx.progs) (by decide) (by decide) (by decide)
    rw [up_off1] at this
    exact this)
  have HOG : Hid (∀ wx, UpSt w wx → Calls Try.prog 10 #[.agg #[.int .i64 0, .int .u64 0, .slice (some ⟨w.heap.size, 0, none⟩) 2 2], .int .u64 4112, .int .u64 497] wx fun e w' => e = .returned (.tuple #[.int .u64 0, .iface 49 (.int .i64 4)]) ∧ Below wx.heap.size wx w') := Lib.hid (fun wx hx => by
    have := offset_any 0 0 (some ⟨w.heap.size, 0, none⟩) 2 upPs 4112 497 wx (up_row hx.progs) (by decide) (by decide) (by decide)
    rw [up_off2] at this
    exact this)
  have HRD : Hid (∀ wx (g : Nat), UpSt w wx → OwnI wx w.heap.size 5 .u8 (.slice (some ⟨g, 0, none⟩) 512 512) (toI (upB 12)) → Calls Try.prog 7 #[.slice (some ⟨g, 0, none⟩) 512 512, .agg #[.int .i64 0, .int .u64 0, .slice (some ⟨w.heap.size, 0, none⟩) 2 2]] wx fun e w' => DynPost wx.heap.size w' e (dynRF (upB 12) upPs) ∧ Below wx.heap.size wx w') := Lib.hid (fun wx g hx ho => by
    have hl := upB_length 12
    have := dynread_any 0 0 (some ⟨w.heap.size, 0, none⟩) (some ⟨g, 0, none⟩) 2 2 512 (upB 12) upPs wx (up_row hx.progs) rfl (by decide) (by decide) ⟨ho.at.2.1, upB_lt 12 (by decide)⟩ (by rw [hl]; decide) (by rw [hl]; decide) (fun h => by cases h)
    rw [hl] at this
    exact this)
  go_enter Try.func4, Try.ntmps4
  go_wp2_with fail
  generalize (w.alloc (.cells #[.int .u32 1, .int .u32 0, .int .u64 0, .int .u64 4096, .int .u64 512, .int .u64 0, .int .u64 0, .int .u32 2, .int .u32 0, .int .u64 256, .int .u64 0, .int .u64 256, .int .u64 0, .int .u64 0] 40)).alloc (.cells #[.int .i64 0, .int .u64 0, .slice (some ⟨w.heap.size, 0, none⟩) 2 2] 43) = w1 at *
  refine (HOF.out w1 K1.out).mono ?_
  rintro e w2 ⟨rfl, hb2⟩
  have K2 := Lib.hid (K1.out.go hb2)
  clear hb2 K1
  have c0 := cell_of_row _ _ 0 _ _ _ K2.out.head
  have c1 := cell_of_row _ _ 1 _ _ _ K2.out.head
  have c2 := cell_of_row _ _ 2 _ _ _ K2.out.head
  simp only [List.getElem?_toArray, List.getElem?_cons_zero, List.getElem?_cons_succ] at c0 c1 c2
  go_wp2_with fail
  refine (HOG.out w2 K2.out).mono ?_
  rintro e w3 ⟨rfl, hb3⟩
  have K3 := Lib.hid (K2.out.go hb3)
  clear hb3 K2 c0 c1 c2
  have B3 : Hid (w.heap.size ≤ w3.heap.size) := Lib.hid K3.out.below.size
  go_wp2_with (at_make; (refine wpList_make_nums rfl (.const (.int .i64 512)) (.const (.int .i64 512)) slice8q rfl w.heap.size w 512 .i64 .i64 512 512 rfl rfl rfl rfl (by omega) (by unfold maxLen; omega) K3.out.below B3.out ?_; intro g1 w4 ho1 hg1 hb1 hb1'; have O4 := Lib.hid ho1; have G4 := Lib.hid hg1; have K4 := Lib.hid (K3.out.go hb1'); clear ho1 hg1 hb1 hb1'))
  have HX : Hid ((w4.alloc (.cells #[.int .u64 5, .int .u64 4096, .int .u64 10, .int .u64 8, .int .u64 6, .int .u64 4112, .int .u64 4, .int .u64 4128, .int .u64 1, .int .u64 1, .int .u64 1, .int .u64 3] 26)).heap[w4.heap.size]? = some (.cells #[.int .u64 5, .int .u64 4096, .int .u64 10, .int .u64 8, .int .u64 6, .int .u64 4112, .int .u64 4, .int .u64 4128, .int .u64 1, .int .u64 1, .int .u64 1, .int .u64 3] 26)) := Lib.hid (heap_alloc_new _ _)
  have K5 : Hid (UpSt w (w4.alloc (.cells #[.int .u64 5, .int .u64 4096, .int .u64 10, .int .u64 8, .int .u64 6, .int .u64 4112, .int .u64 4, .int .u64 4128, .int .u64 1, .int .u64 1, .int .u64 1, .int .u64 3] 26))) := Lib.hid (K4.out.go ((Below.refl _ _).alloc (Nat.le_refl _) _))
  have O5 : Hid (OwnI (w4.alloc (.cells #[.int .u64 5, .int .u64 4096, .int .u64 10, .int .u64 8, .int .u64 6, .int .u64 4112, .int .u64 4, .int .u64 4128, .int .u64 1, .int .u64 1, .int .u64 1, .int .u64 3] 26)) w.heap.size 5 .u8 (.slice (some ⟨g1, 0, none⟩) 512 512) (toI (upB 0))) := Lib.hid (by
    have : toI (upB 0) = List.replicate 512 0 := by unfold upB toI; rw [List.map_replicate]; rfl
    rw [this]
    exact O4.out.allocO _)
  have HG : Hid (w.heap.size + 1 < g1 ∧ g1 < w4.heap.size) := Lib.hid ⟨by have := G4.out; have := K3.out.size; omega, O4.out.blockGe.2⟩
  change Code.wp _ _ _ _ (w4.alloc (.cells #[.int .u64 5, .int .u64 4096, .int .u64 10, .int .u64 8, .int .u64 6, .int .u64 4112, .int .u64 4, .int .u64 4128, .int .u64 1, .int .u64 1, .int .u64 1, .int .u64 3] 26))
  generalize w4.alloc (.cells #[.int .u64 5, .int .u64 4096, .int .u64 10, .int .u64 8, .int .u64 6, .int .u64 4112, .int .u64 4, .int .u64 4128, .int .u64 1, .int .u64 1, .int .u64 1, .int .u64 3] 26) = w5 at *
  generalize w4.heap.size = lb at *
  clear O4 G4 K4 K3 B3
  go_loopg [8] 12 (fun g iv wr => ∃ k : Nat, k + g = 12 ∧ iv = .int .i64 (k : Int) ∧ Hid (UpSt w wr) ∧ Hid (OwnI wr w.heap.size 5 .u8 (.slice (some ⟨g1, 0, none⟩) 512 512) (toI (upB k))) ∧ Hid (wr.heap[lb]? = some (.cells #[.int .u64 5, .int .u64 4096, .int .u64 10, .int .u64 8, .int .u64 6, .int .u64 4112, .int .u64 4, .int .u64 4128, .int .u64 1, .int .u64 1, .int .u64 1, .int .u64 3] 26)))
  case atStart => exact ⟨0, by omega, rfl, K5, O5, HX⟩
  case round =>
    obtain ⟨k, hk, rfl, HK, HO, HL⟩ := hrel
    clear K5 O5 HX
    cases gk with
    | succ g =>
      have hk12 : (k : Int) < 12 := by omega
      have hk0 : (0 : Int) ≤ (k : Int) := by omega
      have HKG : Hid (k + (g + 1) = 12) := Lib.hid hk
      have hcv := cell_of_row _ _ k _ _ _ HL.out
      rw [upL_at k (by omega)] at hcv
      have HVB := Lib.hid (upBt_lt k (by omega))
      have HSB : Hid (upB (k + 1) = ((upB k).set (256 + 8 * k) (upBt k % 256)).set (257 + 8 * k) (upBt k / 256)) := Lib.hid rfl
      obtain ⟨y0, hy0⟩ := upB_get k (256 + 8 * k) (by omega)
      have hc0 := HO.out.get2 (256 + 8 * k) y0 hy0
      have hf0 := HO.out.free2 (256 + 8 * k)
      have P1 := Lib.hid (HO.out.put2 (by rw [toI_length, upB_length]) (256 + 8 * k) ((upBt k % 256 : Nat) : Int))
      have hj1 : IntKind.i64.wrap (8 * (k : Int)) = ((8 * k : Nat) : Int) := by rw [IntKind.wrap_i64]; omega
      have hj2 : IntKind.i64.wrap (256 + ((8 * k : Nat) : Int)) = ((256 + 8 * k : Nat) : Int) := by rw [IntKind.wrap_i64]; omega
      have hj3 : IntKind.i64.wrap (257 + ((8 * k : Nat) : Int)) = ((257 + 8 * k : Nat) : Int) := by rw [IntKind.wrap_i64]; omega
      have i1 : (0 : Int) ≤ ((256 + 8 * k : Nat) : Int) := by omega
      have i2 : ((256 + 8 * k : Nat) : Int) < 512 := by omega
      have i3 : (0 : Int) ≤ ((257 + 8 * k : Nat) : Int) := by omega
      have i4 : ((257 + 8 * k : Nat) : Int) < 512 := by omega
      have n3 : (toI (upB k)).length = 512 := by rw [toI_length, upB_length]
      have hy1 : ∃ y, ((toI (upB k)).set (256 + 8 * k) ((upBt k % 256 : Nat) : Int))[257 + 8 * k]? = some y := ⟨_, List.getElem?_eq_getElem (by rw [List.length_set, n3]; omega)⟩
      obtain ⟨y1, hy1⟩ := hy1
      have hc1 := P1.out.get2 (257 + 8 * k) y1 hy1
      have hf1 := P1.out.free2 (257 + 8 * k)
      have P2 := Lib.hid (P1.out.put2 (by rw [List.length_set, n3]) (257 + 8 * k) ((upBt k / 256 : Nat) : Int))
      have HST : Hid (toI (upB (k + 1)) = ((toI (upB k)).set (256 + 8 * k) ((upBt k % 256 : Nat) : Int)).set (257 + 8 * k) ((upBt k / 256 : Nat) : Int)) := Lib.hid (by
        rw [HSB.out]
        unfold toI
        rw [List.map_set, List.map_set])
      have hcv2 : (wr.setCell ⟨g1, 256 + 8 * k, none⟩ (.int .u8 ((upBt k % 256 : Nat) : Int))).cell? ⟨lb, k, none⟩ = some (.int .u64 ((upBt k : Nat) : Int)) := by
        have : (wr.setCell ⟨g1, 256 + 8 * k, none⟩ (.int .u8 ((upBt k % 256 : Nat) : Int))).heap[lb]? = wr.heap[lb]? := block_setOther _ _ _ _ (by have := HG.out; show lb ≠ g1; omega)
        rw [cell_of_row _ _ k _ _ _ (this.trans HL.out)]
        exact upL_at k (by omega)
      have HV := HVB.out
      generalize hlo : upBt k % 256 = lo at *
      generalize hhi : upBt k / 256 = hi at *
      generalize upBt k = v at *
      have hm1 : (v : Int) % 256 = (lo : Int) := by omega
      have hm2 : IntKind.u8.wrap (lo : Int) = (lo : Int) := by rw [IntKind.wrap_u8]; omega
      have hm3 : IntKind.u64.wrap ((v : Int) / 256) = (hi : Int) := by rw [IntKind.wrap_u64]; omega
      have hm4 : IntKind.u8.wrap (hi : Int) = (hi : Int) := by rw [IntKind.wrap_u8]; omega
      clear hlo hhi
      have HGE : Hid (∀ (wx : World) (i : Nat) (u : Value), UpSt w wx → UpSt w (wx.setCell ⟨g1, i, none⟩ u)) := Lib.hid (fun wx i u hx => ⟨hx.below.setCell (by have := HG.out; show w.heap.size ≤ g1; omega) _, (block_setOther _ _ _ _ (by have := HG.out; show w.heap.size ≠ g1; omega)).trans hx.progs, (block_setOther _ _ _ _ (by have := HG.out; show w.heap.size + 1 ≠ g1; omega)).trans hx.head⟩)
      have HLE : Hid (∀ (wx : World) (i : Nat) (u : Value), wx.heap[lb]? = some (.cells #[.int .u64 5, .int .u64 4096, .int .u64 10, .int .u64 8, .int .u64 6, .int .u64 4112, .int .u64 4, .int .u64 4128, .int .u64 1, .int .u64 1, .int .u64 1, .int .u64 3] 26) → (wx.setCell ⟨g1, i, none⟩ u).heap[lb]? = some (.cells #[.int .u64 5, .int .u64 4096, .int .u64 10, .int .u64 8, .int .u64 6, .int .u64 4112, .int .u64 4, .int .u64 4128, .int .u64 1, .int .u64 1, .int .u64 1, .int .u64 3] 26)) := Lib.hid (fun wx i u hx => (block_setOther _ _ _ _ (by have := HG.out; show lb ≠ g1; omega)).trans hx)
      clear hy0 hy1 n3 HV HVB hk
      go_wp2_with fail
      go_roundg g
      case measure => omega
      case rel => exact ⟨k + 1, by have := HKG.out; omega, by go_num, Lib.hid (HGE.out _ _ _ (HGE.out _ _ _ HK.out)), Lib.hid (by rw [HST.out]; exact P2.out), Lib.hid (HLE.out _ _ _ (HLE.out _ _ _ HL.out))⟩
    | zero =>
      have hk12 : k = 12 := by omega
      subst hk12
      clear hk
      have c0 := cell_of_row _ _ 0 _ _ _ HK.out.head
      have c1 := cell_of_row _ _ 1 _ _ _ HK.out.head
      have c2 := cell_of_row _ _ 2 _ _ _ HK.out.head
      simp only [List.getElem?_toArray, List.getElem?_cons_zero, List.getElem?_cons_succ] at c0 c1 c2
      obtain ⟨ns, m, hr, rfl, hm5, hm4⟩ := up_read
      have HR := HRD.out wr g1 HK.out HO.out
      rw [hr] at HR
      have HR := Lib.hid HR
      clear HRD hr
      go_wp2_with fail
      refine HR.out.mono ?_
      rintro e w6 ⟨⟨ad, n, c, rfl, hown, hn⟩, hb6⟩
      have K6 := Lib.hid (HK.out.go hb6)
      have HN : Hid (n = 2) := Lib.hid hn
      have O6 := Lib.hid hown
      clear hn hown hb6 c0 c1 c2
      have hs5 : (toldF ad n c m).strtab = 4096 := hm5
      have hs4 : (toldF ad n c m).hash = 4128 := hm4
      have hnl : (toldF ad n c m).cells[0]? = some (.slice ad n c) := rfl
      generalize toldF ad n c m = d at *
      have q3 : d.cells[3]? = some (.int .u64 ((d.hash : Nat) : Int)) := rfl
      have q4 : d.cells[4]? = some (.int .u64 ((d.strtab : Nat) : Int)) := rfl
      rw [hs4] at q3
      rw [hs5] at q4
      have h37 := dyn_size d
      have hone := dyn_one d
      unfold DT.v
      generalize d.cells = C at *
      clear hs5 hs4 hm5 hm4
      obtain ⟨b, o, rfl, hnd⟩ := O6.out.at.2.1 1 (by decide)
      have HI : Hid ((Try.prog.info? 33).map (·.size) = some C.size) := Lib.hid (by rw [h37]; kernel_rfl)
      have HZ : Hid ((w6.alloc (.cells #[.slice none 0 0, .int .u64 0, .int .u64 0, .int .u64 0, .int .u64 0, .int .u64 0, .int .u64 0, .int .u64 0, .int .u64 0, .int .u64 0, .int .u64 0, .int .u64 0, .int .u64 0, .int .u64 0, .bool false, .bool false, .bool false, .int .u64 0, .int .u64 0, .int .u64 0, .int .u64 0, .int .u64 0, .int .u64 0, .int .u64 0, .int .u64 0, .int .u64 0, .int .u64 0, .int .u64 0, .int .u64 0, .int .u64 0, .int .u64 0, .int .u64 0, .bool false, .bool false, .bool false, .bool false, .bool false] 33)).heap[w6.heap.size]? = some (.cells #[.slice none 0 0, .int .u64 0, .int .u64 0, .int .u64 0, .int .u64 0, .int .u64 0, .int .u64 0, .int .u64 0, .int .u64 0, .int .u64 0, .int .u64 0, .int .u64 0, .int .u64 0, .int .u64 0, .bool false, .bool false, .bool false, .int .u64 0, .int .u64 0, .int .u64 0, .int .u64 0, .int .u64 0, .int .u64 0, .int .u64 0, .int .u64 0, .int .u64 0, .int .u64 0, .int .u64 0, .int .u64 0, .int .u64 0, .int .u64 0, .int .u64 0, .bool false, .bool false, .bool false, .bool false, .bool false] 33)) := Lib.hid (heap_alloc_new _ _)
      have hr7 := setRow_heap _ _ _ C _ _ HZ.out
      have B7 : Hid (Below w6.heap.size w6 ((w6.alloc (.cells #[.slice none 0 0, .int .u64 0, .int .u64 0, .int .u64 0, .int .u64 0, .int .u64 0, .int .u64 0, .int .u64 0, .int .u64 0, .int .u64 0, .int .u64 0, .int .u64 0, .int .u64 0, .int .u64 0, .bool false, .bool false, .bool false, .int .u64 0, .int .u64 0, .int .u64 0, .int .u64 0, .int .u64 0, .int .u64 0, .int .u64 0, .int .u64 0, .int .u64 0, .int .u64 0, .int .u64 0, .int .u64 0, .int .u64 0, .int .u64 0, .int .u64 0, .bool false, .bool false, .bool false, .bool false, .bool false] 33)).setRow w6.heap.size C)) := Lib.hid (below_setRow ((Below.refl _ _).alloc (Nat.le_refl _) _) (Nat.le_refl _))
      have e0 := (cell_of_row _ _ 0 _ _ _ hr7).trans hnl
      have e3 := (cell_of_row _ _ 3 _ _ _ hr7).trans q3
      have e4 := (cell_of_row _ _ 4 _ _ _ hr7).trans q4
      have en : ((w6.alloc (.cells #[.slice none 0 0, .int .u64 0, .int .u64 0, .int .u64 0, .int .u64 0, .int .u64 0, .int .u64 0, .int .u64 0, .int .u64 0, .int .u64 0, .int .u64 0, .int .u64 0, .int .u64 0, .int .u64 0, .bool false, .bool false, .bool false, .int .u64 0, .int .u64 0, .int .u64 0, .int .u64 0, .int .u64 0, .int .u64 0, .int .u64 0, .int .u64 0, .int .u64 0, .int .u64 0, .int .u64 0, .int .u64 0, .int .u64 0, .int .u64 0, .int .u64 0, .bool false, .bool false, .bool false, .bool false, .bool false] 33)).setRow w6.heap.size C).cell? ⟨b, o + 1, none⟩ = some (.int .u64 3) := by
        rw [B7.out.cell (p := ⟨b, o + 1, none⟩) (by simpa using World.block_lt_of_cell? w6 _ hnd)]
        exact hnd
      obtain rfl : n = 2 := HN.out
      have H37 := Lib.hid h37; have HON := Lib.hid hone
      have BF : Hid (Below w.heap.size w ((w6.alloc (.cells #[.slice none 0 0, .int .u64 0, .int .u64 0, .int .u64 0, .int .u64 0, .int .u64 0, .int .u64 0, .int .u64 0, .int .u64 0, .int .u64 0, .int .u64 0, .int .u64 0, .int .u64 0, .int .u64 0, .bool false, .bool false, .bool false, .int .u64 0, .int .u64 0, .int .u64 0, .int .u64 0, .int .u64 0, .int .u64 0, .int .u64 0, .int .u64 0, .int .u64 0, .int .u64 0, .int .u64 0, .int .u64 0, .int .u64 0, .int .u64 0, .int .u64 0, .bool false, .bool false, .bool false, .bool false, .bool false] 33)).setRow w6.heap.size C)) := Lib.hid (bstep K6.out.below B7.out)
      have heq := run_eql_code 4 4
      clear hr7 hnl q3 q4 h37 hone hnd
      go_wp2_with (refine wpList_store_row rfl 33 _ _ rfl w6.heap.size C rfl rfl 33 _ HZ.out HI.out (by rw [H37.out]; rfl) HON.out ?_)
      go_ret
      exact ⟨rfl, BF.out⟩
end Go.Proofs.Ytcjgljmeefbacaa
