/- Layer 4: the numbers that must stand in a header. -/
import Derived.Test.YtnaejlfjlennhaaGreatDoorHeadWhere
import Derived.Deep.MidRow
import Derived.Test.YtnaejlfjlennhaaGreatDoorTk
import Derived.Handy
namespace Go.Proofs.YtnaejlfjlennhaaGreatDoor
open Go.RowKit
set_option linter.unusedVariables false
set_option linter.unusedSimpArgs false

def fixC : List Value := [.int .i64 0, .int .i64 1, .int .u64 127, .int .u64 127, .int .i64 1, .int .i64 1, .int .u64 69, .int .u64 69, .int .i64 2, .int .i64 1, .int .u64 76, .int .u64 76, .int .i64 3, .int .i64 1, .int .u64 70, .int .u64 70, .int .i64 4, .int .i64 1, .int .u64 2, .int .u64 2, .int .i64 5, .int .i64 1, .int .u64 1, .int .u64 1, .int .i64 6, .int .i64 1, .int .u64 1, .int .u64 1, .int .i64 7, .int .i64 1, .int .u64 0, .int .u64 3, .int .i64 16, .int .i64 2, .int .u64 2, .int .u64 3, .int .i64 18, .int .i64 2, .int .u64 62, .int .u64 62, .int .i64 20, .int .i64 4, .int .u64 1, .int .u64 1, .int .i64 52, .int .i64 2, .int .u64 64, .int .u64 64, .int .i64 54, .int .i64 2, .int .u64 56, .int .u64 56]
/-- the program's own table lies in its first variable -/
def FixAt (w : World) : Prop := w.rangeAt 0 0 fixC
theorem FixAt.below {w w' : World} (h : FixAt w) (hb : Below w.heap.size w w') : FixAt w' := fun j v hj => by
  have h0 := h j v hj
  have hlt : 0 < w.heap.size := by simpa using World.block_lt_of_cell? w _ h0
  exact (hb.cell (p := ⟨0, 0 + j, none⟩) hlt).trans h0
set_option maxRecDepth 100000
theorem fix_idx0 (w : World) : (Instr.index 65 (.agg fixC.toArray) (.int .i64 0)).run Tryz.prog w = .ok (.agg #[.int .i64 0, .int .i64 1, .int .u64 127, .int .u64 127]) w := by
  simp [Instr.index, run_underlying Tryz.underlying65, asIntOf, part, Tryz.sizeOf64, Tryz.isAgg64, go_sem, fixC]
theorem fix_idx1 (w : World) : (Instr.index 65 (.agg fixC.toArray) (.int .i64 1)).run Tryz.prog w = .ok (.agg #[.int .i64 1, .int .i64 1, .int .u64 69, .int .u64 69]) w := by
  simp [Instr.index, run_underlying Tryz.underlying65, asIntOf, part, Tryz.sizeOf64, Tryz.isAgg64, go_sem, fixC]
theorem fix_idx2 (w : World) : (Instr.index 65 (.agg fixC.toArray) (.int .i64 2)).run Tryz.prog w = .ok (.agg #[.int .i64 2, .int .i64 1, .int .u64 76, .int .u64 76]) w := by
  simp [Instr.index, run_underlying Tryz.underlying65, asIntOf, part, Tryz.sizeOf64, Tryz.isAgg64, go_sem, fixC]
theorem fix_idx3 (w : World) : (Instr.index 65 (.agg fixC.toArray) (.int .i64 3)).run Tryz.prog w = .ok (.agg #[.int .i64 3, .int .i64 1, .int .u64 70, .int .u64 70]) w := by
  simp [Instr.index, run_underlying Tryz.underlying65, asIntOf, part, Tryz.sizeOf64, Tryz.isAgg64, go_sem, fixC]
theorem fix_idx4 (w : World) : (Instr.index 65 (.agg fixC.toArray) (.int .i64 4)).run Tryz.prog w = .ok (.agg #[.int .i64 4, .int .i64 1, .int .u64 2, .int .u64 2]) w := by
  simp [Instr.index, run_underlying Tryz.underlying65, asIntOf, part, Tryz.sizeOf64, Tryz.isAgg64, go_sem, fixC]
theorem fix_idx5 (w : World) : (Instr.index 65 (.agg fixC.toArray) (.int .i64 5)).run Tryz.prog w = .ok (.agg #[.int .i64 5, .int .i64 1, .int .u64 1, .int .u64 1]) w := by
  simp [Instr.index, run_underlying Tryz.underlying65, asIntOf, part, Tryz.sizeOf64, Tryz.isAgg64, go_sem, fixC]
theorem fix_idx6 (w : World) : (Instr.index 65 (.agg fixC.toArray) (.int .i64 6)).run Tryz.prog w = .ok (.agg #[.int .i64 6, .int .i64 1, .int .u64 1, .int .u64 1]) w := by
  simp [Instr.index, run_underlying Tryz.underlying65, asIntOf, part, Tryz.sizeOf64, Tryz.isAgg64, go_sem, fixC]
theorem fix_idx7 (w : World) : (Instr.index 65 (.agg fixC.toArray) (.int .i64 7)).run Tryz.prog w = .ok (.agg #[.int .i64 7, .int .i64 1, .int .u64 0, .int .u64 3]) w := by
  simp [Instr.index, run_underlying Tryz.underlying65, asIntOf, part, Tryz.sizeOf64, Tryz.isAgg64, go_sem, fixC]
theorem fix_idx8 (w : World) : (Instr.index 65 (.agg fixC.toArray) (.int .i64 8)).run Tryz.prog w = .ok (.agg #[.int .i64 16, .int .i64 2, .int .u64 2, .int .u64 3]) w := by
  simp [Instr.index, run_underlying Tryz.underlying65, asIntOf, part, Tryz.sizeOf64, Tryz.isAgg64, go_sem, fixC]
theorem fix_idx9 (w : World) : (Instr.index 65 (.agg fixC.toArray) (.int .i64 9)).run Tryz.prog w = .ok (.agg #[.int .i64 18, .int .i64 2, .int .u64 62, .int .u64 62]) w := by
  simp [Instr.index, run_underlying Tryz.underlying65, asIntOf, part, Tryz.sizeOf64, Tryz.isAgg64, go_sem, fixC]
theorem fix_idx10 (w : World) : (Instr.index 65 (.agg fixC.toArray) (.int .i64 10)).run Tryz.prog w = .ok (.agg #[.int .i64 20, .int .i64 4, .int .u64 1, .int .u64 1]) w := by
  simp [Instr.index, run_underlying Tryz.underlying65, asIntOf, part, Tryz.sizeOf64, Tryz.isAgg64, go_sem, fixC]
theorem fix_idx11 (w : World) : (Instr.index 65 (.agg fixC.toArray) (.int .i64 11)).run Tryz.prog w = .ok (.agg #[.int .i64 52, .int .i64 2, .int .u64 64, .int .u64 64]) w := by
  simp [Instr.index, run_underlying Tryz.underlying65, asIntOf, part, Tryz.sizeOf64, Tryz.isAgg64, go_sem, fixC]
theorem fix_idx12 (w : World) : (Instr.index 65 (.agg fixC.toArray) (.int .i64 12)).run Tryz.prog w = .ok (.agg #[.int .i64 54, .int .i64 2, .int .u64 56, .int .u64 56]) w := by
  simp [Instr.index, run_underlying Tryz.underlying65, asIntOf, part, Tryz.sizeOf64, Tryz.isAgg64, go_sem, fixC]
theorem fix_all (k : Nat) (hk : k < 13) : ∃ a n x y : Nat, fixedF[k]? = some (a, n, x, y) ∧ wide n = true ∧ a < 64 ∧ x < 256 ∧ y < 256 ∧ ∀ w, (Instr.index 65 (.agg fixC.toArray) (.int .i64 (k : Int))).run Tryz.prog w = .ok (.agg #[.int .i64 (a : Int), .int .i64 (n : Int), .int .u64 (x : Int), .int .u64 (y : Int)]) w := by
  rcases (show k = 0 ∨ k = 1 ∨ k = 2 ∨ k = 3 ∨ k = 4 ∨ k = 5 ∨ k = 6 ∨ k = 7 ∨ k = 8 ∨ k = 9 ∨ k = 10 ∨ k = 11 ∨ k = 12 by omega) with rfl | rfl | rfl | rfl | rfl | rfl | rfl | rfl | rfl | rfl | rfl | rfl | rfl
  · exact ⟨0, 1, 127, 127, rfl, by decide, by decide, by decide, by decide, fix_idx0⟩
  · exact ⟨1, 1, 69, 69, rfl, by decide, by decide, by decide, by decide, fix_idx1⟩
  · exact ⟨2, 1, 76, 76, rfl, by decide, by decide, by decide, by decide, fix_idx2⟩
  · exact ⟨3, 1, 70, 70, rfl, by decide, by decide, by decide, by decide, fix_idx3⟩
  · exact ⟨4, 1, 2, 2, rfl, by decide, by decide, by decide, by decide, fix_idx4⟩
  · exact ⟨5, 1, 1, 1, rfl, by decide, by decide, by decide, by decide, fix_idx5⟩
  · exact ⟨6, 1, 1, 1, rfl, by decide, by decide, by decide, by decide, fix_idx6⟩
  · exact ⟨7, 1, 0, 3, rfl, by decide, by decide, by decide, by decide, fix_idx7⟩
  · exact ⟨16, 2, 2, 3, rfl, by decide, by decide, by decide, by decide, fix_idx8⟩
  · exact ⟨18, 2, 62, 62, rfl, by decide, by decide, by decide, by decide, fix_idx9⟩
  · exact ⟨20, 4, 1, 1, rfl, by decide, by decide, by decide, by decide, fix_idx10⟩
  · exact ⟨52, 2, 64, 64, rfl, by decide, by decide, by decide, by decide, fix_idx11⟩
  · exact ⟨54, 2, 56, 56, rfl, by decide, by decide, by decide, by decide, fix_idx12⟩
theorem const_drop (bs : List Nat) {k a n x y : Nat} (h : fixedF[k]? = some (a, n, x, y)) : constF bs (fixedF.drop k) = if numF bs a n = x ∨ numF bs a n = y then constF bs (fixedF.drop (k + 1)) else some (a, 3) := by
  have hk : k < fixedF.length := (List.getElem?_eq_some_iff.1 h).1
  have he : fixedF[k] = (a, n, x, y) := (List.getElem?_eq_some_iff.1 h).2
  rw [List.drop_eq_getElem_cons hk, he, constF]
def ConstPost (w0 : World) (tk : Nat × Array Value) (r : HRd) (bs : List Nat) (e : Ending) (w' : World) : Prop := (∃ v, e = .returned v ∧ ErrAt w' v (constF bs fixedF)) ∧ (constF bs fixedF = none → RdSt w0 tk { r with kind := (numF bs 16 2 : Int), entry := numF bs 24 8 } bs w') ∧ Below w0.heap.size w0 w'
set_option maxRecDepth 100000 in
set_option maxHeartbeats 16000000 in
theorem constants_any (w0 : World) (tk : Nat × Array Value) (r : HRd) (bs : List Nat) (w : World) (h : RdSt w0 tk r bs w) (hf : FixAt w0) :
    Calls Tryz.prog 18 #[.pointer (some ⟨r.rb, 0, none⟩)] w (ConstPost w0 tk r bs) := by
  have hbw : ∀ wx, Below w.heap.size w wx → BSl wx r.a r.m r.cap bs := fun wx hx => h.bytes.below (h.blw.trans (hx.mono h.blw.size))
  have HNA : Hid (∀ (a n : Nat) wx, a < 18446744073709551616 → wide n = true → Below w.heap.size w wx → Calls Tryz.prog 39 #[.slice r.a r.m r.cap, .int .u64 (a : Int), .int .i64 (n : Int)] wx fun e w' => e = .returned (.int .u64 (numF bs a n : Int)) ∧ Below wx.heap.size wx w') := Lib.hid (fun a n wx ha hw hx => (hbw wx hx).number a n ha hw)
  have hK2 : numF bs 16 2 < 65536 := by have := numF_lt h.bytes.row.2 16 2; have e : (256 : Nat) ^ 2 = 65536 := by decide
                                        omega
  have HFX : Hid (w.rangeAt 0 0 fixC) := Lib.hid (hf.below h.blw)
  have HPE : Hid (∀ v w' x, constF bs fixedF = some x → ErrAt w' v (some x) → Below w0.heap.size w0 w' → ConstPost w0 tk r bs (.returned v) w') := Lib.hid (fun v w' x e hv hb => ⟨⟨v, rfl, by rw [e]; exact hv⟩, (fun e2 => by rw [e] at e2; cases e2), hb⟩)
  have HPN : Hid (∀ w', constF bs fixedF = none → RdSt w0 tk { r with kind := (numF bs 16 2 : Int), entry := numF bs 24 8 } bs w' → ConstPost w0 tk r bs (.returned .nilIface) w') := Lib.hid (fun w' e hr => ⟨⟨_, rfl, by rw [e]; rfl⟩, fun _ => hr, hr.blw⟩)
  have HST := Lib.hid h
  generalize ConstPost w0 tk r bs = P at *
  have HR0 : Hid (constF bs (fixedF.drop 0) = constF bs fixedF) := Lib.hid rfl
  obtain ⟨FV, hFV⟩ : ∃ FV, fixC.toArray = FV := ⟨_, rfl⟩
  have HIX : Hid (∀ k : Nat, k < 13 → ∃ a n x y : Nat, fixedF[k]? = some (a, n, x, y) ∧ wide n = true ∧ a < 64 ∧ x < 256 ∧ y < 256 ∧ ∀ w, (Instr.index 65 (.agg FV) (.int .i64 (k : Int))).run Tryz.prog w = .ok (.agg #[.int .i64 (a : Int), .int .i64 (n : Int), .int .u64 (x : Int), .int .u64 (y : Int)]) w) := Lib.hid (fun k hk => by rw [← hFV]; exact fix_all k hk)
  have HFV := Lib.hid hFV
  have HIN : Hid ((Tryz.prog.info? 65).map (·.size) = some fixC.length) := Lib.hid (by kernel_rfl)
  obtain ⟨rb, k0, k1, k2, k3, a, m, cap, pa, pn, pc⟩ := r
  simp only [] at *
  have HAT : Hid (({ rb := rb, kind := k0, entry := k1, begin_ := k2, count := k3, a := a, m := m, cap := cap, pa := pa, pn := pn, pc := pc } : HRd).at w) := Lib.hid h.at_
  have HK2 := Lib.hid hK2
  clear h hbw hf hFV hK2
  go_enter Tryz.func18, Tryz.ntmps18
  go_wp2_with (refine wpList_load_mid rfl 65 _ rfl 0 0 (by rfl) fixC _ HFX.out Tryz.underlying65 rfl HIN.out ?_)
  rw [HFV.out]
  go_loopg [7] 13 (fun g iv wr => ∃ k : Nat, k + g = 13 ∧ iv = .int .i64 (k : Int) ∧ Hid (constF bs (fixedF.drop k) = constF bs fixedF) ∧ Hid (Below w.heap.size w wr))
  case atStart => exact ⟨0, by omega, rfl, HR0, Lib.hid (Below.refl _ _)⟩
  case round =>
    obtain ⟨k, hk, rfl, HG, HB⟩ := hrel
    cases gk with
    | zero =>
      obtain rfl : k = 13 := by omega
      clear hk
      have HN : Hid (constF bs fixedF = none) := Lib.hid HG.out.symm
      have HN1 := Lib.hid (HNA.out 16 2 wr (by decide) (by decide) HB.out)
      have hat := HAT.out.below HB.out
      have l4 : wr.cell? ⟨rb, 4, none⟩ = some (.slice a m cap) := by rw [hat.get]; rfl
      obtain ⟨V1, hV1⟩ : ∃ V1, numF bs 16 2 = V1 := ⟨_, rfl⟩
      obtain ⟨V2, hV2⟩ : ∃ V2, numF bs 24 8 = V2 := ⟨_, rfl⟩
      rw [hV1] at HN1 HPN HK2
      rw [hV2] at HPN
      have hwk : IntKind.i64.wrap (V1 : Int) = (V1 : Int) := by have := HK2.out; rw [IntKind.wrap_i64]; omega
      have HV2 := Lib.hid hV2
      clear hat hV1 hV2
      go_wp2_with fail
      refine HN1.out.mono ?_
      rintro e w5 ⟨rfl, hb5⟩
      have B5 := Lib.hid (bstep HB.out hb5)
      have HA5 := Lib.hid (HAT.out.below B5.out)
      have q0 : w5.cell? ⟨rb, 0, none⟩ = some (.int .i64 k0) := by rw [HA5.out.get]; rfl
      have f0 : w5.frozen? ⟨rb, 0, none⟩ = false := frozen_of_row _ _ _ _ _ HA5.out
      have q4 : (w5.setCell ⟨rb, 0, none⟩ (.int .i64 (V1 : Int))).cell? ⟨rb, 4, none⟩ = some (.slice a m cap) := by
        rw [setOther2 (by simp), HA5.out.get]
        rfl
      have HR6 : Hid (RdSt w0 tk { rb := rb, kind := (V1 : Int), entry := k1, begin_ := k2, count := k3, a := a, m := m, cap := cap, pa := pa, pn := pn, pc := pc } bs (w5.setCell ⟨rb, 0, none⟩ (.int .i64 (V1 : Int)))) := Lib.hid ⟨heap_setCell_same w5 rb 0 _ _ _ HA5.out, (HST.out.blw.trans (B5.out.mono HST.out.blw.size)).setCell (p := ⟨rb, 0, none⟩) HST.out.ge _, HST.out.ge, HST.out.bytes, (HST.out.kept.below B5.out).set 0 _⟩
      have HN2 : Hid (Calls Tryz.prog 39 #[.slice a m cap, .int .u64 24, .int .i64 8] (w5.setCell ⟨rb, 0, none⟩ (.int .i64 (V1 : Int))) fun e w' => e = .returned (.int .u64 (V2 : Int)) ∧ Below (w5.setCell ⟨rb, 0, none⟩ (.int .i64 (V1 : Int))).heap.size (w5.setCell ⟨rb, 0, none⟩ (.int .i64 (V1 : Int))) w') := Lib.hid (by
        have := (HR6.out.bytes.below HR6.out.blw).number 24 8 (by decide) (by decide)
        rw [HV2.out] at this
        exact this)
      clear hb5 l4
      go_wp2_with fail
      refine HN2.out.mono ?_
      rintro e w7 ⟨rfl, hb7⟩
      have HA7 := Lib.hid (HR6.out.at_.below hb7)
      have B7 := Lib.hid (HR6.out.blw.trans (hb7.mono HR6.out.blw.size))
      have q1 : w7.cell? ⟨rb, 1, none⟩ = some (.int .u64 (k1 : Int)) := by rw [HA7.out.get]; rfl
      have f1 : w7.frozen? ⟨rb, 1, none⟩ = false := frozen_of_row _ _ _ _ _ HA7.out
      have HR8 : Hid (RdSt w0 tk { rb := rb, kind := (V1 : Int), entry := V2, begin_ := k2, count := k3, a := a, m := m, cap := cap, pa := pa, pn := pn, pc := pc } bs (w7.setCell ⟨rb, 1, none⟩ (.int .u64 (V2 : Int)))) := Lib.hid ⟨heap_setCell_same w7 rb 1 _ _ _ HA7.out, B7.out.setCell (p := ⟨rb, 1, none⟩) HST.out.ge _, HST.out.ge, HST.out.bytes, (HR6.out.kept.below hb7).set 1 _⟩
      clear hb7 q0 f0 q4
      go_wp2_with fail
      exact HPN.out _ HN.out HR8.out
    | succ g =>
      have hk13 : k < 13 := by omega
      obtain ⟨fa, fn, fx, fy, hfk, hfw, hfa, hfx, hfy, hidx⟩ := HIX.out k hk13
      have HNU : Hid (∀ wx, Below w.heap.size w wx → Calls Tryz.prog 39 #[.slice a m cap, .int .u64 (fa : Int), .int .i64 (fn : Int)] wx fun e w' => e = .returned (.int .u64 (numF bs fa fn : Int)) ∧ Below wx.heap.size wx w') := Lib.hid (fun wx hx => HNA.out fa fn wx (by omega) hfw hx)
      have HCD := Lib.hid (const_drop bs hfk)
      obtain ⟨V, hV⟩ : ∃ V, numF bs fa fn = V := ⟨_, rfl⟩
      rw [hV] at HNU HCD
      have HKK := Lib.hid hk
      have i0 : (0 : Int) ≤ (k : Int) := by omega
      have i1 : (k : Int) < 13 := by omega
      have tk : decide ((k : Int) < 13) = true := decide_eq_true (by omega)
      have wfa : IntKind.u64.wrap (fa : Int) = (fa : Int) := by rw [IntKind.wrap_u64]; omega
      have HFA : Hid (fa < 64) := Lib.hid hfa
      obtain ⟨xb, hxb⟩ : ∃ xb, wr.heap.size = xb := ⟨_, rfl⟩
      obtain ⟨w3, hw3⟩ : ∃ w3, wr.alloc (.cells #[.int .i64 (fa : Int), .int .i64 (fn : Int), .int .u64 (fx : Int), .int .u64 (fy : Int)] 64) = w3 := ⟨_, rfl⟩
      have B3 : Hid (Below w.heap.size w w3) := Lib.hid (by rw [← hw3]; exact ballo HB.out _)
      have X3 : Hid (w3.heap[xb]? = some (.cells #[.int .i64 (fa : Int), .int .i64 (fn : Int), .int .u64 (fx : Int), .int .u64 (fy : Int)] 64)) := Lib.hid (by rw [← hw3, ← hxb]; exact heap_alloc_new _ _)
      have KS : Hid (∀ wx, Below w3.heap.size w3 wx → wx.cell? ⟨rb, 4, none⟩ = some (.slice a m cap) ∧ wx.cell? ⟨xb, 0, none⟩ = some (.int .i64 (fa : Int)) ∧ wx.cell? ⟨xb, 1, none⟩ = some (.int .i64 (fn : Int))) := Lib.hid (fun wx hx => by
        have hr := (hx.block _ (lt_of_block X3.out)).trans X3.out
        exact ⟨by rw [(HAT.out.below (bstep B3.out hx)).get]; rfl, by rw [cell_of_row _ _ 0 _ _ _ hr]; rfl, by rw [cell_of_row _ _ 1 _ _ _ hr]; rfl⟩)
      have H3 := Stp.mk (show Below w.heap.size w w3 from B3.out)
      clear hk hfk hfw hfa hV
      go_wp2_with fail
      clear hxb hw3 hidx
      refine wp_region_held_drew (S := fun wx => Below w3.heap.size w3 wx) (by kernel_rfl) ((Below.refl _ _).drew) (fun hHeld => ?_)
      first
        | (refine tkw 0 ?_ rfl ?_ ?_
           rotate_left
           · intro wx hSw
             obtain ⟨s0, s1, s2⟩ := KS.out wx hSw
             (first | (go_simp; rfl) | go_simp | rfl))
        | refine tku 0 rfl ?_
      first
        | (refine tkw 1 ?_ rfl ?_ ?_
           rotate_left
           · intro wx hSw
             obtain ⟨s0, s1, s2⟩ := KS.out wx hSw
             (first | (go_simp; rfl) | go_simp | rfl))
        | refine tku 1 rfl ?_
      first
        | (refine tkw 2 ?_ rfl ?_ ?_
           rotate_left
           · intro wx hSw
             obtain ⟨s0, s1, s2⟩ := KS.out wx hSw
             (first | (go_simp; rfl) | go_simp | rfl))
        | refine tku 2 rfl ?_
      first
        | (refine tkw 3 ?_ rfl ?_ ?_
           rotate_left
           · intro wx hSw
             obtain ⟨s0, s1, s2⟩ := KS.out wx hSw
             (first | (go_simp; rfl) | go_simp | rfl))
        | refine tku 3 rfl ?_
      first
        | (refine tkw 4 ?_ rfl ?_ ?_
           rotate_left
           · intro wx hSw
             obtain ⟨s0, s1, s2⟩ := KS.out wx hSw
             (first | (go_simp; rfl) | go_simp | rfl))
        | refine tku 4 rfl ?_
      first
        | (refine tkw 5 ?_ rfl ?_ ?_
           rotate_left
           · intro wx hSw
             obtain ⟨s0, s1, s2⟩ := KS.out wx hSw
             (first | (go_simp; rfl) | go_simp | rfl))
        | refine tku 5 rfl ?_
      first
        | (refine tkw 6 ?_ rfl ?_ ?_
           rotate_left
           · intro wx hSw
             obtain ⟨s0, s1, s2⟩ := KS.out wx hSw
             (first | (go_simp; rfl) | go_simp | rfl))
        | refine tku 6 rfl ?_
      first
        | (refine tkw 7 ?_ rfl ?_ ?_
           rotate_left
           · intro wx hSw
             obtain ⟨s0, s1, s2⟩ := KS.out wx hSw
             (first | (go_simp; rfl) | go_simp | rfl))
        | refine tku 7 rfl ?_
      first
        | (refine tkw 8 ?_ rfl ?_ ?_
           rotate_left
           · intro wx hSw
             obtain ⟨s0, s1, s2⟩ := KS.out wx hSw
             (first | (go_simp; rfl) | go_simp | rfl))
        | refine tku 8 rfl ?_
      refine wpAnyH_ready (rs := [9]) (by kernel_rfl) (by simp) ?_
      refine AllReadyH.cons rfl (fun K hK => ?_) AllReadyH.nil
      go_simp
      refine (HNU.out _ (by (repeat (first | exact Below.refl _ _ | refine bdrew ?_ | refine ballo ?_ _ | refine bsteps ?_ (by assumption))))).mono ?_
      rintro e w5 ⟨rfl, b5⟩
      have H5 := Stp.mk b5
      try go_simp
      refine hK.out _ _ (bstep (by assumption) b5) (fun hHeld => ?_)
      clear hK K b5
      try simp only [List.getElem_toArray, List.getElem_cons_zero, List.getElem_cons_succ, Act.put, List.setIfInBounds_toArray, List.set_cons_zero, List.set_cons_succ, Array.toArray_toList]
      first
        | (refine tkw 10 ?_ rfl ?_ ?_
           rotate_left
           · intro wx hSw
             obtain ⟨s0, s1, s2⟩ := KS.out wx hSw
             (first | (go_simp; rfl) | go_simp | rfl))
        | refine tku 10 rfl ?_
      refine wpAnyH_done (by kernel_rfl) ?_ _
      have H7 : Hid (Below w3.heap.size w3 w5) := Lib.hid hHeld
      have X5 := Lib.hid ((H7.out.block _ (lt_of_block X3.out)).trans X3.out)
      have x2 : w5.cell? ⟨xb, 2, none⟩ = some (.int .u64 (fx : Int)) := by rw [cell_of_row _ _ 2 _ _ _ X5.out]; rfl
      have x3 : w5.cell? ⟨xb, 3, none⟩ = some (.int .u64 (fy : Int)) := by rw [cell_of_row _ _ 3 _ _ _ X5.out]; rfl
      have x0 : w5.cell? ⟨xb, 0, none⟩ = some (.int .i64 (fa : Int)) := by rw [cell_of_row _ _ 0 _ _ _ X5.out]; rfl
      have B5 : Hid (Below w.heap.size w w5) := Lib.hid (bstep B3.out H7.out)
      clear hHeld KS HNU
      by_cases h1 : V = fx
      · have HG2 : Hid (constF bs (fixedF.drop (k + 1)) = constF bs fixedF) := Lib.hid (by rw [← HG.out, HCD.out, if_pos (.inl h1)])
        have t1 : ((V : Int) != (fx : Int)) = false := by rw [h1]; simp
        clear h1 hfx hfy
        go_wp2_with fail
        go_roundg g
        case measure => have := HKK.out; omega
        case rel => exact ⟨k + 1, by have := HKK.out; omega, by go_num, HG2, B5⟩
      · have t1 : ((V : Int) != (fx : Int)) = true := by rw [bne_iff_ne]; omega
        by_cases h2 : V = fy
        · have HG2 : Hid (constF bs (fixedF.drop (k + 1)) = constF bs fixedF) := Lib.hid (by rw [← HG.out, HCD.out, if_pos (.inr h2)])
          have t2 : ((V : Int) != (fy : Int)) = false := by rw [h2]; simp
          clear h1 h2 hfx hfy
          go_wp2_with fail
          go_roundg g
          case measure => have := HKK.out; omega
          case rel => exact ⟨k + 1, by have := HKK.out; omega, by go_num, HG2, B5⟩
        · have HER : Hid (constF bs fixedF = some (fa, 3)) := Lib.hid (by rw [← HG.out, HCD.out, if_neg (by rintro (h | h); exact h1 h; exact h2 h)])
          have t2 : ((V : Int) != (fy : Int)) = true := by rw [bne_iff_ne]; omega
          have HSP : Hid (Calls Tryz.prog 16 #[.int .u64 (fa : Int), .int .i64 3] w5 (TestPost (some (fa, 3)) w5)) := Lib.hid (hspot_any fa 3 w5 (by have := HFA.out; omega))
          clear h1 h2 hfx hfy
          go_wp2_with fail
          refine HSP.out.mono ?_
          rintro e w6 ⟨⟨v, rfl, hv⟩, hb6⟩
          have HV := Lib.hid hv
          have B6 : Hid (Below w0.heap.size w0 w6) := Lib.hid (HST.out.blw.trans ((bstep B5.out hb6).mono HST.out.blw.size))
          clear hv hb6
          go_wp2_with fail
          exact HPE.out _ _ _ HER.out HV.out B6.out
end Go.Proofs.YtnaejlfjlennhaaGreatDoor
/- Layer 4: the first of several tests that tells something, where each leaves what the next one asks for. -/
namespace Go.Proofs.YtnaejlfjlennhaaGreatDoor
open Go.RowKit
set_option linter.unusedVariables false
set_option linter.unusedSimpArgs false

/-- an error value of a form that can be told -/
def EV (u : Value) : Prop := (∃ sb, u = .iface 68 (.pointer (some ⟨sb, 0, none⟩))) ∨ ∃ c : Int, u = .iface 56 (.int .i64 c)
set_option maxRecDepth 100000 in
set_option maxHeartbeats 8000000 in
theorem firstS_any (sb n cap : Nat) (vs : List Value) (S : Nat → World → Prop) (P : Ending → World → Prop) (w : World) (hv : vs.length = n) (hnl : n ≤ 1048576) (hS : S 0 w)
    (hc : ∀ (i : Nat) (v : Value) wx, vs[i]? = some v → S i wx → wx.cell? ⟨sb, i, none⟩ = some v)
    (hT : ∀ (i : Nat) (v : Value) wx, vs[i]? = some v → S i wx → ∃ (F : FuncId) (b c : Array Value), v = .func (.func F) b c ∧ (∀ (args : Array Value) (w : World), (callFunc F args).run Tryz.prog w = .ok (.enter F args) w) ∧ Calls Tryz.prog F (b ++ c) wx fun e w' => ∃ u, e = .returned u ∧ ((u = .nilIface ∧ S (i + 1) w') ∨ (EV u ∧ P (.returned u) w')))
    (hP : ∀ w', S n w' → P (.returned .nilIface) w') :
    Calls Tryz.prog 17 #[.slice (some ⟨sb, 0, none⟩) n cap] w P := by
  have HC := Lib.hid hc
  have HT := Lib.hid hT
  have HP := Lib.hid hP
  have HS := Lib.hid hS
  have HL := Lib.hid hv
  have hnn : (n : Int) ≤ 1048576 := by omega
  clear hc hT hv hP hS hnl
  go_enter Tryz.func17, Tryz.ntmps17
  go_wp2_with fail
  go_loopg [8] n (fun g iv wr => ∃ k : Nat, k + g = n ∧ iv = .int .i64 (k : Int) ∧ Hid (S k wr))
  case atStart => exact ⟨0, by omega, rfl, HS⟩
  case round =>
    obtain ⟨k, hk, rfl, HB⟩ := hrel
    cases gk with
    | zero =>
      have hkn : k = n := by omega
      subst hkn
      clear hk
      go_wp2_with fail
      exact HP.out _ HB.out
    | succ g =>
      have hlt : k < n := by omega
      obtain ⟨v, hv⟩ : ∃ v, vs[k]? = some v := ⟨_, List.getElem?_eq_getElem (by have := HL.out; omega)⟩
      have c0 : wr.cell? ⟨sb, k, none⟩ = some v := HC.out k v wr hv HB.out
      obtain ⟨F, b, c, rfl, hen, hcall⟩ := HT.out k v wr hv HB.out
      have HCL := Lib.hid hcall
      have HK := Lib.hid hk
      have i0 : (0 : Int) ≤ (k : Int) := by omega
      have i1 : (k : Int) < (n : Int) := by omega
      clear hk hv hcall
      go_wp2_with fail
      refine HCL.out.mono ?_
      rintro e w2 ⟨u, rfl, hu⟩
      rcases hu with ⟨rfl, hS2⟩ | ⟨⟨sx, rfl⟩ | ⟨cx, rfl⟩, hP2⟩
      · have HS2 := Lib.hid hS2
        clear c0 HCL hen hS2
        go_wp2_with fail
        go_roundg g
        case measure => have := HK.out; omega
        case rel => exact ⟨k + 1, by have := HK.out; omega, by go_num, HS2⟩
      · have HP2 := Lib.hid hP2
        clear c0 HCL hen hP2
        go_wp2_with fail
        exact HP2.out
      · have HP2 := Lib.hid hP2
        clear c0 HCL hen hP2
        go_wp2_with fail
        exact HP2.out
end Go.Proofs.YtnaejlfjlennhaaGreatDoor
/- Layer 4: Read: what a file's header and program headers tell. -/
namespace Go.Proofs.YtnaejlfjlennhaaGreatDoor
open Go.RowKit
set_option linter.unusedVariables false
set_option linter.unusedSimpArgs false

/-- an error that Read tells, in memory -/
def ErrH (w : World) (v : Value) : HErr → Prop
  | .spot a c => ErrAt w v (some (a, c))
  | .code c => v = .iface 56 (.int .i64 (c : Int))
theorem ErrH.below {w w' : World} {v : Value} {x : HErr} (h : ErrH w v x) (hb : Below w.heap.size w w') : ErrH w' v x := by
  cases x with
  | spot a c => exact ErrAt.below (r := some (a, c)) h hb
  | code c => exact h
theorem ErrH.ev {w : World} {v : Value} {x : HErr} (h : ErrH w v x) : EV v := by
  cases x with
  | spot a c =>
    obtain ⟨sb, e, -⟩ := h
    exact .inl ⟨sb, e⟩
  | code c => exact .inr ⟨_, h⟩
def ReadAns (w0 : World) (e : Ending) (w' : World) : Except HErr HT → Prop
  | .error x => ∃ v, e = .returned (.tuple #[.agg #[.int .i64 0, .int .u64 0, .slice none 0 0], v]) ∧ ErrH w' v x
  | .ok h => ∃ pa pc, e = .returned (.tuple #[.agg #[.int .i64 (h.kind : Int), .int .u64 (h.entry : Int), .slice pa h.ps.length pc], .nilIface]) ∧ OwnS w' w0.heap.size 54 7 (.slice pa h.ps.length pc) (h.ps.map PT.cells) ∧ ∀ p ∈ h.ps, p.wf
def ReadPost (w0 : World) (bs : List Nat) (e : Ending) (w' : World) : Prop := ReadAns w0 e w' (readF bs) ∧ Below w0.heap.size w0 w'
theorem enters_constants : ∀ (args : Array Value) (w : World), (callFunc 18 args).run Tryz.prog w = .ok (.enter 18 args) w := enters_of Tryz.func18 (by kernel_rfl) rfl
theorem enters_where : ∀ (args : Array Value) (w : World), (callFunc 19 args).run Tryz.prog w = .ok (.enter 19 args) w := enters_of Tryz.func19 (by kernel_rfl) rfl
theorem enters_programs : ∀ (args : Array Value) (w : World), (callFunc 20 args).run Tryz.prog w = .ok (.enter 20 args) w := enters_of Tryz.func20 (by kernel_rfl) rfl
theorem enters_loads : ∀ (args : Array Value) (w : World), (callFunc 21 args).run Tryz.prog w = .ok (.enter 21 args) w := enters_of Tryz.func21 (by kernel_rfl) rfl
/-- the four tests -/
def testsV (rb : Nat) : List Value := [.func (.func 18) #[.pointer (some ⟨rb, 0, none⟩)] #[], .func (.func 19) #[.pointer (some ⟨rb, 0, none⟩)] #[], .func (.func 20) #[.pointer (some ⟨rb, 0, none⟩)] #[], .func (.func 21) #[.pointer (some ⟨rb, 0, none⟩)] #[]]
/-- what the four leave, and tell -/
def FirstAns (w0 : World) (rb : Nat) (bs : List Nat) (a : Option Addr) (m cap : Nat) (e : Ending) (w' : World) : Prop :=
  (∃ v x, e = .returned v ∧ readF bs = .error x ∧ ErrH w' v x ∧ Below w0.heap.size w0 w') ∨
  ∃ ps pa pc x, e = .returned .nilIface ∧ readF bs = .ok ⟨numF bs 16 2, numF bs 24 8, ps⟩ ∧ lastF ps = some x ∧ ∃ tk, PgSt w0 tk ⟨rb, (numF bs 16 2 : Int), numF bs 24 8, numF bs 32 8, numF bs 56 2, a, m, cap, pa, ps.length, pc⟩ bs ps w'
def FSt (w0 : World) (tk : Nat × Array Value) (rb : Nat) (bs : List Nat) (a : Option Addr) (m cap : Nat) : Nat → World → Prop
  | 0, wx => RdSt w0 tk ⟨rb, 0, 0, 0, 0, a, m, cap, none, 0, 0⟩ bs wx
  | 1, wx => constF bs fixedF = none ∧ RdSt w0 tk ⟨rb, (numF bs 16 2 : Int), numF bs 24 8, 0, 0, a, m, cap, none, 0, 0⟩ bs wx
  | 2, wx => constF bs fixedF = none ∧ whereF bs = none ∧ RdSt w0 tk ⟨rb, (numF bs 16 2 : Int), numF bs 24 8, numF bs 32 8, numF bs 56 2, a, m, cap, none, 0, 0⟩ bs wx
  | 3, wx => constF bs fixedF = none ∧ whereF bs = none ∧ ∃ ps pa pc, progsF bs (numF bs 32 8) (numF bs 56 2) 0 [] = .ok ps ∧ PgSt w0 tk ⟨rb, (numF bs 16 2 : Int), numF bs 24 8, numF bs 32 8, numF bs 56 2, a, m, cap, pa, ps.length, pc⟩ bs ps wx
  | _, wx => constF bs fixedF = none ∧ whereF bs = none ∧ ∃ ps pa pc x, progsF bs (numF bs 32 8) (numF bs 56 2) 0 [] = .ok ps ∧ lastF ps = some x ∧ PgSt w0 tk ⟨rb, (numF bs 16 2 : Int), numF bs 24 8, numF bs 32 8, numF bs 56 2, a, m, cap, pa, ps.length, pc⟩ bs ps wx
theorem FSt.tk {w0 : World} {tk : Nat × Array Value} {rb : Nat} {bs : List Nat} {a : Option Addr} {m cap i : Nat} {wx : World} (h : FSt w0 tk rb bs a m cap i wx) : Tk tk rb wx := by
  match i, h with
  | 0, h => exact h.kept
  | 1, h => exact h.2.kept
  | 2, h => exact h.2.2.kept
  | 3, h => obtain ⟨-, -, ps, pa, pc, -, h⟩ := h; exact h.kept
  | i + 4, h => obtain ⟨-, -, ps, pa, pc, x, -, -, h⟩ := h; exact h.kept
theorem progsF_len (bs : List Nat) (b : Nat) : ∀ (g k : Nat) (ps0 ps : List PT), progsF bs b g k ps0 = .ok ps → ps.length = ps0.length + g
  | 0, k, ps0, ps, h => by
    unfold progsF at h
    injection h with h
    rw [h]; rfl
  | g + 1, k, ps0, ps, h => by
    unfold progsF at h
    split at h
    · cases h
    · have := progsF_len bs b g (k + 1) _ ps h
      rw [this, List.length_append, List.length_singleton]
      omega
theorem where_ok {bs : List Nat} (h : whereF bs = none) : inB bs.length (numF bs 32 8) (numF bs 56 2 * 56) = true ∧ numF bs 56 2 ≤ 16 := by
  unfold whereF unF at h
  by_cases h1 : decide (0 < numF bs 56 2) = true
  · rw [if_pos h1] at h
    by_cases h2 : decide (numF bs 56 2 ≤ 16) = true
    · rw [if_pos h2] at h
      by_cases h3 : inB bs.length (numF bs 32 8) (numF bs 56 2 * 56) = true
      · exact ⟨h3, of_decide_eq_true h2⟩
      · rw [if_neg h3] at h
        simp [firstF] at h
    · rw [if_neg h2] at h
      simp [firstF] at h
  · rw [if_neg h1] at h
    simp [firstF] at h
set_option maxRecDepth 100000 in
set_option maxHeartbeats 4000000 in
theorem four_any (w0 : World) (tb rb : Nat) (bs : List Nat) (a : Option Addr) (m cap : Nat) (w : World) (h : FSt w0 (tb, (testsV rb).toArray) rb bs a m cap 0 w) (hf : FixAt w0) (h64 : 64 ≤ bs.length) :
    Calls Tryz.prog 17 #[.slice (some ⟨tb, 0, none⟩) 4 4] w (FirstAns w0 rb bs a m cap) := by
  have hlong : ¬ 1048576 < bs.length := by have := h.bytes.most; have := h.bytes.len; simp only [] at *; omega
  have hrd : ∀ x, (match constF bs fixedF with
    | some (a, c) => Except.error (HErr.spot a c)
    | none => match whereF bs with
      | some (a, c) => .error (.spot a c)
      | none => match progsF bs (numF bs 32 8) (numF bs 56 2) 0 [] with
        | .error (a, c) => .error (.spot a c)
        | .ok ps => match lastF ps with
          | none => .error (.code 6)
          | some _ => .ok (⟨numF bs 16 2, numF bs 24 8, ps⟩ : HT)) = x → readF bs = x := fun x hx => by
    unfold readF
    rw [if_neg hlong, if_neg (by omega)]
    exact hx
  refine firstS_any tb 4 4 (testsV rb) (FSt w0 (tb, (testsV rb).toArray) rb bs a m cap) (FirstAns w0 rb bs a m cap) w rfl (by decide) h ?_ ?_ ?_
  · intro i v wx hv hs
    rw [cell_of_row _ _ i _ _ _ hs.tk.2]
    simpa using hv
  · intro i v wx hv hs
    rcases list_at4 i v hv with ⟨rfl, rfl⟩ | ⟨rfl, rfl⟩ | ⟨rfl, rfl⟩ | ⟨rfl, rfl⟩
    · refine ⟨_, _, _, rfl, enters_constants, ?_⟩
      refine (constants_any w0 _ _ bs wx hs hf).mono ?_
      rintro e w' ⟨⟨u, rfl, hu⟩, hok, hb⟩
      refine ⟨u, rfl, ?_⟩
      cases hcc : constF bs fixedF with
      | none =>
        rw [hcc] at hu
        exact .inl ⟨hu, hcc, hok hcc⟩
      | some x =>
        rw [hcc] at hu
        have hh : ErrH w' u (.spot x.1 x.2) := hu
        exact .inr ⟨hh.ev, .inl ⟨u, _, rfl, hrd _ (by rw [hcc]), hh, hb⟩⟩
    · obtain ⟨hcc, hs⟩ := hs
      refine ⟨_, _, _, rfl, enters_where, ?_⟩
      refine (where_any w0 _ _ bs wx hs).mono ?_
      rintro e w' ⟨⟨u, rfl, hu⟩, hok⟩
      refine ⟨u, rfl, ?_⟩
      cases hw : whereF bs with
      | none =>
        rw [hw] at hu
        exact .inl ⟨hu, hcc, hw, hok⟩
      | some x =>
        rw [hw] at hu
        have hh : ErrH w' u (.spot x.1 x.2) := hu
        exact .inr ⟨hh.ev, .inl ⟨u, _, rfl, hrd _ (by rw [hcc, hw]), hh, hok.blw⟩⟩
    · obtain ⟨hcc, hw, hs⟩ := hs
      obtain ⟨hin, h16⟩ := where_ok hw
      have hm := hs.bytes.len
      refine ⟨_, _, _, rfl, enters_programs, ?_⟩
      have hps : PgSt w0 (tb, (testsV rb).toArray) ⟨rb, (numF bs 16 2 : Int), numF bs 24 8, numF bs 32 8, numF bs 56 2, a, m, cap, none, 0, 0⟩ bs [] wx := ⟨hs.at_, OwnS.nil _ _ _ _, rfl, by simp, hs.blw, hs.ge, hs.bytes, hs.kept⟩
      refine (programs_any w0 _ _ bs wx hps (by rw [← hm]; exact hin) h16).mono ?_
      intro e w' hpost
      cases hp : progsF bs (numF bs 32 8) (numF bs 56 2) 0 [] with
      | error x =>
        have hpost : PgPost w0 (tb, (testsV rb).toArray) ⟨rb, (numF bs 16 2 : Int), numF bs 24 8, numF bs 32 8, numF bs 56 2, a, m, cap, none, 0, 0⟩ bs e w' (.error x) := by rw [← hp]; exact hpost
        obtain ⟨⟨v, rfl, hv⟩, hb⟩ := hpost
        have hh : ErrH w' v (.spot x.1 x.2) := hv
        exact ⟨v, rfl, .inr ⟨hh.ev, .inl ⟨v, _, rfl, hrd _ (by rw [hcc, hw, hp]), hh, hb⟩⟩⟩
      | ok ps =>
        have hpost : PgPost w0 (tb, (testsV rb).toArray) ⟨rb, (numF bs 16 2 : Int), numF bs 24 8, numF bs 32 8, numF bs 56 2, a, m, cap, none, 0, 0⟩ bs e w' (.ok ps) := by rw [← hp]; exact hpost
        obtain ⟨rfl, pa, pc, hst⟩ := hpost
        exact ⟨_, rfl, .inl ⟨rfl, hcc, hw, ps, pa, pc, hp, hst⟩⟩
    · obtain ⟨hcc, hw, ps, pa, pc, hp, hs⟩ := hs
      refine ⟨_, _, _, rfl, enters_loads, ?_⟩
      have hpl : ps.length ≤ 140737488351232 := by
        have h1 := progsF_len bs _ _ _ _ _ hp
        have h2 := (where_ok hw).2
        rw [List.length_nil] at h1
        omega
      refine (loads_any _ ps wx hs.at_ hs.row rfl hpl).mono ?_
      rintro e w' ⟨rfl, hb⟩
      cases hl : lastF ps with
      | none => exact ⟨_, rfl, .inr ⟨.inr ⟨6, rfl⟩, .inl ⟨_, .code 6, rfl, hrd _ (by rw [hcc, hw, hp]; simp only [hl]), rfl, hs.blw.trans (hb.mono hs.blw.size)⟩⟩⟩
      | some x =>
        exact ⟨_, rfl, .inl ⟨rfl, hcc, hw, ps, pa, pc, x, hp, hl, ⟨hs.at_.below hb, hs.own.below hb, hs.len, hs.wf, hs.blw.trans (hb.mono hs.blw.size), hs.ge, hs.bytes, hs.kept.below hb⟩⟩⟩
  · rintro w' ⟨hcc, hw, ps, pa, pc, x, hp, hl, hs⟩
    exact .inr ⟨ps, pa, pc, x, rfl, hrd _ (by rw [hcc, hw, hp]; simp only [hl]), hl, _, hs⟩
end Go.Proofs.YtnaejlfjlennhaaGreatDoor
/- Layer 4: Read: a file of whatever length. -/
namespace Go.Proofs.YtnaejlfjlennhaaGreatDoor
open Go.RowKit
set_option linter.unusedVariables false
set_option linter.unusedSimpArgs false

def set3 (w : World) (b : Nat) (v0 v1 v2 : Value) : World := ((w.setCell ⟨b, 0, none⟩ v0).setCell ⟨b, 1, none⟩ v1).setCell ⟨b, 2, none⟩ v2
theorem set3_other {w : World} {b c : Nat} (h : c ≠ b) (v0 v1 v2 : Value) : (set3 w b v0 v1 v2).heap[c]? = w.heap[c]? := by
  unfold set3
  rw [heap_setCell_other _ _ _ _ h, heap_setCell_other _ _ _ _ h, heap_setCell_other _ _ _ _ h]
theorem set3_cells {w : World} {b : Nat} {T : TypeId} {u0 u1 u2 : Value} (R : w.heap[b]? = some (.cells #[u0, u1, u2] T)) (v0 v1 v2 : Value) : ∃ wf, ((w.setCell ⟨b, 0, none⟩ v0).setCell ⟨b, 1, none⟩ v1).setCell ⟨b, 2, none⟩ v2 = wf ∧ wf.cell? ⟨b, 0, none⟩ = some v0 ∧ wf.cell? ⟨b, 1, none⟩ = some v1 ∧ wf.cell? ⟨b, 2, none⟩ = some v2 ∧ set3 w b v0 v1 v2 = wf := by
  have e1 := heap_setCell_same w b 0 _ _ v0 R
  have e2 := heap_setCell_same _ b 1 _ _ v1 e1
  have e3 := heap_setCell_same _ b 2 _ _ v2 e2
  refine ⟨_, rfl, ?_, ?_, ?_, rfl⟩
  · rw [cell_of_row _ _ 0 _ _ _ e3]; rfl
  · rw [cell_of_row _ _ 1 _ _ _ e3]; rfl
  · rw [cell_of_row _ _ 2 _ _ _ e3]; rfl
theorem ErrH.set3 {w : World} {v : Value} {x : HErr} {b : Nat} {cs : Array Value} (h : ErrH w v x) (R : w.heap[b]? = some (.cells cs 27)) (v0 v1 v2 : Value) : ErrH (set3 w b v0 v1 v2) v x := by
  cases x with
  | code c => exact h
  | spot a c =>
    obtain ⟨sb, e, hs⟩ := h
    refine ⟨sb, e, (set3_other (fun e2 => ?_) v0 v1 v2).trans hs⟩
    rw [e2, R] at hs
    simp only [Option.some.injEq, Obj.cells.injEq] at hs
    exact absurd hs.2.1 (by decide)
theorem OwnS.set3 {w : World} {B : Nat} {v : Value} {rows : List (List Value)} {b : Nat} {cs : Array Value} (h : OwnS w B 54 7 v rows) (R : w.heap[b]? = some (.cells cs 27)) (v0 v1 v2 : Value) : OwnS (set3 w b v0 v1 v2) B 54 7 v rows := by
  have hne := own_ne h.1 R (by decide)
  exact ((h.setO (a := ⟨b, 0, none⟩) hne v0).setO (a := ⟨b, 1, none⟩) hne v1).setO (a := ⟨b, 2, none⟩) hne v2
theorem below_set3 {w w' : World} {n b : Nat} (h : Below n w w') (hb : n ≤ b) (v0 v1 v2 : Value) : Below n w (set3 w' b v0 v1 v2) :=
  ((h.setCell (p := ⟨b, 0, none⟩) hb v0).setCell (p := ⟨b, 1, none⟩) hb v1).setCell (p := ⟨b, 2, none⟩) hb v2
set_option maxRecDepth 100000 in
set_option maxHeartbeats 16000000 in
theorem hread_any (a : Option Addr) (m cap : Nat) (bs : List Nat) (w : World) (h : BRow w a bs) (hm : bs.length = m) (hl : m ≤ 140737488351232) (hn : a = none → m = 0 ∧ cap = 0) (hc : m ≤ cap) (hf : FixAt w) :
    Calls Tryz.prog 8 #[.slice a m cap] w (ReadPost w bs) := by
  have HPE : Hid (∀ x v w', readF bs = .error x → ErrH w' v x → Below w.heap.size w w' → ReadPost w bs (.returned (.tuple #[.agg #[.int .i64 0, .int .u64 0, .slice none 0 0], v])) w') := Lib.hid (fun x v w' e hv hb => ⟨by rw [e]; exact ⟨v, rfl, hv⟩, hb⟩)
  have HPO : Hid (∀ (K E : Nat) ps pa pc w', readF bs = .ok ⟨K, E, ps⟩ → OwnS w' w.heap.size 54 7 (.slice pa ps.length pc) (ps.map PT.cells) → (∀ p ∈ ps, p.wf) → Below w.heap.size w w' → ReadPost w bs (.returned (.tuple #[.agg #[.int .i64 (K : Int), .int .u64 (E : Int), .slice pa ps.length pc], .nilIface])) w') := Lib.hid (fun K E ps pa pc w' e ho hp hb => ⟨by rw [e]; exact ⟨pa, pc, rfl, ho, hp⟩, hb⟩)
  generalize ReadPost w bs = P at *
  obtain ⟨w1, hw1⟩ : ∃ w1, w.alloc (.cells #[.int .i64 0, .int .u64 0, .slice none 0 0] 27) = w1 := ⟨_, rfl⟩
  obtain ⟨hb0, hhb0⟩ : ∃ hb0, w.heap.size = hb0 := ⟨_, rfl⟩
  have B1 : Hid (Below w.heap.size w w1) := Lib.hid (by rw [← hw1]; exact ballo (Below.refl _ _) _)
  have R1 : Hid (w1.heap[hb0]? = some (.cells #[.int .i64 0, .int .u64 0, .slice none 0 0] 27)) := Lib.hid (by rw [← hw1, ← hhb0]; exact heap_alloc_new _ _)
  have g0 : w1.cell? ⟨hb0, 0, none⟩ = some (.int .i64 0) := by rw [cell_of_row _ _ 0 _ _ _ R1.out]; rfl
  have g1 : w1.cell? ⟨hb0, 1, none⟩ = some (.int .u64 0) := by rw [cell_of_row _ _ 1 _ _ _ R1.out]; rfl
  have g2 : w1.cell? ⟨hb0, 2, none⟩ = some (.slice none 0 0) := by rw [cell_of_row _ _ 2 _ _ _ R1.out]; rfl
  have f0 : w1.frozen? ⟨hb0, 0, none⟩ = false := frozen_of_row _ _ _ _ _ R1.out
  have f1 : w1.frozen? ⟨hb0, 1, none⟩ = false := frozen_of_row _ _ _ _ _ R1.out
  have f2 : w1.frozen? ⟨hb0, 2, none⟩ = false := frozen_of_row _ _ _ _ _ R1.out
  have HHB := Lib.hid hhb0
  have HF := Lib.hid hf
  have HB : Hid (BRow w a bs ∧ bs.length = m ∧ (a = none → m = 0 ∧ cap = 0) ∧ m ≤ cap) := Lib.hid ⟨h, hm, hn, hc⟩
  clear h hn hc hf
  by_cases h1 : 1048576 < m
  · have t1 : decide ((1048576 : Int) < (m : Int)) = true := decide_eq_true (by omega)
    have HE : Hid (readF bs = .error (.code 2)) := Lib.hid (by unfold readF; rw [if_pos (by omega)])
    obtain ⟨wf, hwf, z0, z1, z2, ez⟩ := set3_cells R1.out (.int .i64 0) (.int .u64 0) (.slice none 0 0)
    have EZ := Lib.hid ez
    clear h1 hm ez
    go_enter Tryz.func8, Tryz.ntmps8
    go_wp2_with fail
    refine bodyPost_ret (by simp [results, Tryz.results8, go_sem, z0, z1, z2]; try rfl) rfl ?_
    exact HPE.out _ _ wf HE.out rfl (by rw [← EZ.out]; exact below_set3 B1.out (Nat.le_of_eq HHB.out) _ _ _)
  · have t1 : decide ((1048576 : Int) < (m : Int)) = false := decide_eq_false (by omega)
    by_cases h2 : m < 64
    · have t2 : decide ((m : Int) < 64) = true := decide_eq_true (by omega)
      have HE : Hid (readF bs = .error (.spot m 4)) := Lib.hid (by unfold readF; rw [if_neg (by omega), if_pos (by omega), hm])
      have HSP : Hid (∀ wx, Calls Tryz.prog 16 #[.int .u64 (m : Int), .int .i64 4] wx (TestPost (some (m, 4)) wx)) := Lib.hid (fun wx => hspot_any m 4 wx (by omega))
      have hwm : IntKind.u64.wrap (m : Int) = (m : Int) := by rw [IntKind.wrap_u64]; omega
      clear h1 h2 hm
      go_enter Tryz.func8, Tryz.ntmps8
      go_wp2_with fail
      refine (HSP.out _).mono ?_
      rintro e w5 ⟨⟨v, rfl, hv⟩, b5⟩
      have R5 := Lib.hid ((b5.block _ (lt_of_block R1.out)).trans R1.out)
      have B5 := Lib.hid (bstep B1.out b5)
      have V5 : Hid (ErrH w5 v (.spot m 4)) := Lib.hid hv
      obtain ⟨sb, rfl, -⟩ := hv
      have g0 : w5.cell? ⟨hb0, 0, none⟩ = some (.int .i64 0) := by rw [cell_of_row _ _ 0 _ _ _ R5.out]; rfl
      have g1 : w5.cell? ⟨hb0, 1, none⟩ = some (.int .u64 0) := by rw [cell_of_row _ _ 1 _ _ _ R5.out]; rfl
      have g2 : w5.cell? ⟨hb0, 2, none⟩ = some (.slice none 0 0) := by rw [cell_of_row _ _ 2 _ _ _ R5.out]; rfl
      have f0 : w5.frozen? ⟨hb0, 0, none⟩ = false := frozen_of_row _ _ _ _ _ R5.out
      have f1 : w5.frozen? ⟨hb0, 1, none⟩ = false := frozen_of_row _ _ _ _ _ R5.out
      have f2 : w5.frozen? ⟨hb0, 2, none⟩ = false := frozen_of_row _ _ _ _ _ R5.out
      obtain ⟨wf, hwf, z0, z1, z2, ez⟩ := set3_cells R5.out (.int .i64 0) (.int .u64 0) (.slice none 0 0)
      have EZ := Lib.hid ez
      clear b5 HSP hw1 hwm ez
      go_wp2_with fail
      refine bodyPost_ret (by simp [results, Tryz.results8, go_sem, z0, z1, z2]; try rfl) rfl ?_
      exact HPE.out _ _ wf HE.out (by rw [← EZ.out]; exact V5.out.set3 R5.out _ _ _) (by rw [← EZ.out]; exact below_set3 B5.out (Nat.le_of_eq HHB.out) _ _ _)
    · have t2 : decide ((m : Int) < 64) = false := decide_eq_false (by omega)
      have H64 : Hid (64 ≤ bs.length ∧ m ≤ 1048576) := Lib.hid ⟨by omega, by omega⟩
      have HFA : Hid (Calls Tryz.prog 17 #[.slice (some ⟨w1.heap.size + 1, 0, none⟩) 4 4] ((w1.alloc (.cells #[.int .i64 0, .int .u64 0, .int .u64 0, .int .u64 0, .slice a m cap, .slice none 0 0] 80)).alloc (.cells #[.func (.func 18) #[.pointer (some ⟨w1.heap.size, 0, none⟩)] #[], .func (.func 19) #[.pointer (some ⟨w1.heap.size, 0, none⟩)] #[], .func (.func 20) #[.pointer (some ⟨w1.heap.size, 0, none⟩)] #[], .func (.func 21) #[.pointer (some ⟨w1.heap.size, 0, none⟩)] #[]] 82)) (FirstAns w1 w1.heap.size bs a m cap)) := Lib.hid (by
        have hb2 := ballo (Below.refl w1.heap.size w1) (.cells #[.int .i64 0, .int .u64 0, .int .u64 0, .int .u64 0, .slice a m cap, .slice none 0 0] 80)
        have hb3 := ballo hb2 (.cells (testsV w1.heap.size).toArray 82)
        have ht := heap_alloc_new (w1.alloc (.cells #[.int .i64 0, .int .u64 0, .int .u64 0, .int .u64 0, .slice a m cap, .slice none 0 0] 80)) (.cells (testsV w1.heap.size).toArray 82)
        rw [World.size_alloc] at ht
        obtain ⟨q1, q2, q3, q4⟩ := HB.out
        refine four_any w1 (w1.heap.size + 1) w1.heap.size bs a m cap _ ⟨?_, hb3, Nat.le_refl _, ⟨q1.below B1.out, q2, H64.out.2, q3, q4⟩, ⟨by show w1.heap.size + 1 ≠ w1.heap.size; omega, ht⟩⟩ (HF.out.below B1.out) H64.out.1
        show (World.alloc _ _).heap[w1.heap.size]? = _
        rw [heap_alloc_old _ _ (by simp)]
        exact heap_alloc_new _ _)
      clear h1 h2 hm
      go_enter Tryz.func8, Tryz.ntmps8
      go_wp2_with fail
      refine (HFA.out).mono ?_
      rintro e w5 hpost
      rcases hpost with ⟨v, x, rfl, hrd, hv, hb5⟩ | ⟨ps, pa, pc, x, rfl, hrd, hls, tk, hst⟩
      · have R5 := Lib.hid ((hb5.block _ (lt_of_block R1.out)).trans R1.out)
        have B5 := Lib.hid (bstep B1.out hb5)
        have V5 := Lib.hid hv
        have HRD := Lib.hid hrd
        have g0 : w5.cell? ⟨hb0, 0, none⟩ = some (.int .i64 0) := by rw [cell_of_row _ _ 0 _ _ _ R5.out]; rfl
        have g1 : w5.cell? ⟨hb0, 1, none⟩ = some (.int .u64 0) := by rw [cell_of_row _ _ 1 _ _ _ R5.out]; rfl
        have g2 : w5.cell? ⟨hb0, 2, none⟩ = some (.slice none 0 0) := by rw [cell_of_row _ _ 2 _ _ _ R5.out]; rfl
        have f0 : w5.frozen? ⟨hb0, 0, none⟩ = false := frozen_of_row _ _ _ _ _ R5.out
        have f1 : w5.frozen? ⟨hb0, 1, none⟩ = false := frozen_of_row _ _ _ _ _ R5.out
        have f2 : w5.frozen? ⟨hb0, 2, none⟩ = false := frozen_of_row _ _ _ _ _ R5.out
        obtain ⟨wf, hwf, z0, z1, z2, ez⟩ := set3_cells R5.out (.int .i64 0) (.int .u64 0) (.slice none 0 0)
        have EZ := Lib.hid ez
        have hev := hv.ev
        clear hb5 HFA hw1 hrd ez hv
        rcases hev with ⟨sx, rfl⟩ | ⟨cx, rfl⟩
        · go_wp2_with fail
          refine bodyPost_ret (by simp [results, Tryz.results8, go_sem, z0, z1, z2]; try rfl) rfl ?_
          exact HPE.out _ _ wf HRD.out (by rw [← EZ.out]; exact V5.out.set3 R5.out _ _ _) (by rw [← EZ.out]; exact below_set3 B5.out (Nat.le_of_eq HHB.out) _ _ _)
        · go_wp2_with fail
          refine bodyPost_ret (by simp [results, Tryz.results8, go_sem, z0, z1, z2]; try rfl) rfl ?_
          exact HPE.out _ _ wf HRD.out (by rw [← EZ.out]; exact V5.out.set3 R5.out _ _ _) (by rw [← EZ.out]; exact below_set3 B5.out (Nat.le_of_eq HHB.out) _ _ _)
      · obtain ⟨K, hK⟩ : ∃ K, numF bs 16 2 = K := ⟨_, rfl⟩
        obtain ⟨E, hE⟩ : ∃ E, numF bs 24 8 = E := ⟨_, rfl⟩
        rw [hK, hE] at hrd hst
        have hb5 := hst.blw
        have R5 := Lib.hid ((hb5.block _ (lt_of_block R1.out)).trans R1.out)
        have B5 := Lib.hid (bstep B1.out hb5)
        have HRD := Lib.hid hrd
        have HST := Lib.hid hst
        have g0 : w5.cell? ⟨hb0, 0, none⟩ = some (.int .i64 0) := by rw [cell_of_row _ _ 0 _ _ _ R5.out]; rfl
        have g1 : w5.cell? ⟨hb0, 1, none⟩ = some (.int .u64 0) := by rw [cell_of_row _ _ 1 _ _ _ R5.out]; rfl
        have g2 : w5.cell? ⟨hb0, 2, none⟩ = some (.slice none 0 0) := by rw [cell_of_row _ _ 2 _ _ _ R5.out]; rfl
        have f0 : w5.frozen? ⟨hb0, 0, none⟩ = false := frozen_of_row _ _ _ _ _ R5.out
        have f1 : w5.frozen? ⟨hb0, 1, none⟩ = false := frozen_of_row _ _ _ _ _ R5.out
        have f2 : w5.frozen? ⟨hb0, 2, none⟩ = false := frozen_of_row _ _ _ _ _ R5.out
        have l0 : w5.cell? ⟨w1.heap.size, 0, none⟩ = some (.int .i64 (K : Int)) := by rw [hst.at_.get]; rfl
        have l1 : w5.cell? ⟨w1.heap.size, 1, none⟩ = some (.int .u64 (E : Int)) := by rw [hst.at_.get]; rfl
        have l5 : w5.cell? ⟨w1.heap.size, 5, none⟩ = some (.slice pa ps.length pc) := by rw [hst.at_.get]; rfl
        obtain ⟨wf, hwf, z0, z1, z2, ez⟩ := set3_cells R5.out (.int .i64 (K : Int)) (.int .u64 (E : Int)) (.slice pa ps.length pc)
        have EZ := Lib.hid ez
        have HLE : Hid (w.heap.size ≤ w1.heap.size) := Lib.hid B1.out.size
        clear hb5 HFA hw1 hrd ez hst hK hE hls
        go_wp2_with fail
        refine bodyPost_ret (by simp [results, Tryz.results8, go_sem, z0, z1, z2]; try rfl) rfl ?_
        exact HPO.out K E ps pa pc wf HRD.out (by rw [← EZ.out]; exact (OwnS.mono HST.out.own HLE.out).set3 R5.out _ _ _) HST.out.wf (by rw [← EZ.out]; exact below_set3 B5.out (Nat.le_of_eq HHB.out) _ _ _)
end Go.Proofs.YtnaejlfjlennhaaGreatDoor
