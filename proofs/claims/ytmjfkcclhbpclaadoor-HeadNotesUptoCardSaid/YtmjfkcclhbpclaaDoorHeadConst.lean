/- Layer 4: the numbers that must stand in a header. -/
import Derived.Test.YtmjfkcclhbpclaaDoorHeadWhere
import Derived.Deep.MidRow
namespace Go.Proofs.YtmjfkcclhbpclaaDoor
open Go.RowKit
set_option linter.unusedVariables false
set_option linter.unusedSimpArgs false

def fixC : List Value := [.int .i64 0, .int .i64 1, .int .u64 127, .int .u64 127, .int .i64 1, .int .i64 1, .int .u64 69, .int .u64 69, .int .i64 2, .int .i64 1, .int .u64 76, .int .u64 76, .int .i64 3, .int .i64 1, .int .u64 70, .int .u64 70, .int .i64 4, .int .i64 1, .int .u64 2, .int .u64 2, .int .i64 5, .int .i64 1, .int .u64 1, .int .u64 1, .int .i64 6, .int .i64 1, .int .u64 1, .int .u64 1, .int .i64 7, .int .i64 1, .int .u64 0, .int .u64 3, .int .i64 16, .int .i64 2, .int .u64 2, .int .u64 3, .int .i64 18, .int .i64 2, .int .u64 62, .int .u64 62, .int .i64 20, .int .i64 4, .int .u64 1, .int .u64 1, .int .i64 52, .int .i64 2, .int .u64 64, .int .u64 64, .int .i64 54, .int .i64 2, .int .u64 56, .int .u64 56]
/-- the program's own table lies in its first variable -/
def FixAt (w : World) : Prop := w.rangeAt 0 0 fixC
theorem FixAt.below {w w' : World} (h : FixAt w) (hb : Below w.heap.size w w') : FixAt w' := fun j v hj => by
  have h0 := h j v hj
  have hlt : 0 < w.heap.size := by simpa using World.block_lt_of_cell? w _ h0
  exact (hb.cell (p := ⟨0, 0 + j, none⟩) hlt).trans h0
set_option maxRecDepth 100000
theorem fix_idx0 (w : World) : (Instr.index 61 (.agg fixC.toArray) (.int .i64 0)).run Tryd.prog w = .ok (.agg #[.int .i64 0, .int .i64 1, .int .u64 127, .int .u64 127]) w := by
  simp [Instr.index, run_underlying Tryd.underlying61, asIntOf, part, Tryd.sizeOf60, Tryd.isAgg60, go_sem, fixC]
theorem fix_idx1 (w : World) : (Instr.index 61 (.agg fixC.toArray) (.int .i64 1)).run Tryd.prog w = .ok (.agg #[.int .i64 1, .int .i64 1, .int .u64 69, .int .u64 69]) w := by
  simp [Instr.index, run_underlying Tryd.underlying61, asIntOf, part, Tryd.sizeOf60, Tryd.isAgg60, go_sem, fixC]
theorem fix_idx2 (w : World) : (Instr.index 61 (.agg fixC.toArray) (.int .i64 2)).run Tryd.prog w = .ok (.agg #[.int .i64 2, .int .i64 1, .int .u64 76, .int .u64 76]) w := by
  simp [Instr.index, run_underlying Tryd.underlying61, asIntOf, part, Tryd.sizeOf60, Tryd.isAgg60, go_sem, fixC]
theorem fix_idx3 (w : World) : (Instr.index 61 (.agg fixC.toArray) (.int .i64 3)).run Tryd.prog w = .ok (.agg #[.int .i64 3, .int .i64 1, .int .u64 70, .int .u64 70]) w := by
  simp [Instr.index, run_underlying Tryd.underlying61, asIntOf, part, Tryd.sizeOf60, Tryd.isAgg60, go_sem, fixC]
theorem fix_idx4 (w : World) : (Instr.index 61 (.agg fixC.toArray) (.int .i64 4)).run Tryd.prog w = .ok (.agg #[.int .i64 4, .int .i64 1, .int .u64 2, .int .u64 2]) w := by
  simp [Instr.index, run_underlying Tryd.underlying61, asIntOf, part, Tryd.sizeOf60, Tryd.isAgg60, go_sem, fixC]
theorem fix_idx5 (w : World) : (Instr.index 61 (.agg fixC.toArray) (.int .i64 5)).run Tryd.prog w = .ok (.agg #[.int .i64 5, .int .i64 1, .int .u64 1, .int .u64 1]) w := by
  simp [Instr.index, run_underlying Tryd.underlying61, asIntOf, part, Tryd.sizeOf60, Tryd.isAgg60, go_sem, fixC]
theorem fix_idx6 (w : World) : (Instr.index 61 (.agg fixC.toArray) (.int .i64 6)).run Tryd.prog w = .ok (.agg #[.int .i64 6, .int .i64 1, .int .u64 1, .int .u64 1]) w := by
  simp [Instr.index, run_underlying Tryd.underlying61, asIntOf, part, Tryd.sizeOf60, Tryd.isAgg60, go_sem, fixC]
theorem fix_idx7 (w : World) : (Instr.index 61 (.agg fixC.toArray) (.int .i64 7)).run Tryd.prog w = .ok (.agg #[.int .i64 7, .int .i64 1, .int .u64 0, .int .u64 3]) w := by
  simp [Instr.index, run_underlying Tryd.underlying61, asIntOf, part, Tryd.sizeOf60, Tryd.isAgg60, go_sem, fixC]
theorem fix_idx8 (w : World) : (Instr.index 61 (.agg fixC.toArray) (.int .i64 8)).run Tryd.prog w = .ok (.agg #[.int .i64 16, .int .i64 2, .int .u64 2, .int .u64 3]) w := by
  simp [Instr.index, run_underlying Tryd.underlying61, asIntOf, part, Tryd.sizeOf60, Tryd.isAgg60, go_sem, fixC]
theorem fix_idx9 (w : World) : (Instr.index 61 (.agg fixC.toArray) (.int .i64 9)).run Tryd.prog w = .ok (.agg #[.int .i64 18, .int .i64 2, .int .u64 62, .int .u64 62]) w := by
  simp [Instr.index, run_underlying Tryd.underlying61, asIntOf, part, Tryd.sizeOf60, Tryd.isAgg60, go_sem, fixC]
theorem fix_idx10 (w : World) : (Instr.index 61 (.agg fixC.toArray) (.int .i64 10)).run Tryd.prog w = .ok (.agg #[.int .i64 20, .int .i64 4, .int .u64 1, .int .u64 1]) w := by
  simp [Instr.index, run_underlying Tryd.underlying61, asIntOf, part, Tryd.sizeOf60, Tryd.isAgg60, go_sem, fixC]
theorem fix_idx11 (w : World) : (Instr.index 61 (.agg fixC.toArray) (.int .i64 11)).run Tryd.prog w = .ok (.agg #[.int .i64 52, .int .i64 2, .int .u64 64, .int .u64 64]) w := by
  simp [Instr.index, run_underlying Tryd.underlying61, asIntOf, part, Tryd.sizeOf60, Tryd.isAgg60, go_sem, fixC]
theorem fix_idx12 (w : World) : (Instr.index 61 (.agg fixC.toArray) (.int .i64 12)).run Tryd.prog w = .ok (.agg #[.int .i64 54, .int .i64 2, .int .u64 56, .int .u64 56]) w := by
  simp [Instr.index, run_underlying Tryd.underlying61, asIntOf, part, Tryd.sizeOf60, Tryd.isAgg60, go_sem, fixC]
theorem fix_all (k : Nat) (hk : k < 13) : ∃ a n x y : Nat, fixedF[k]? = some (a, n, x, y) ∧ wide n = true ∧ a < 64 ∧ x < 256 ∧ y < 256 ∧ ∀ w, (Instr.index 61 (.agg fixC.toArray) (.int .i64 (k : Int))).run Tryd.prog w = .ok (.agg #[.int .i64 (a : Int), .int .i64 (n : Int), .int .u64 (x : Int), .int .u64 (y : Int)]) w := by
  rcases (show k = 0 ∨ k = 1 ∨ k = 2 ∨ k = 3 ∨ k = 4 ∨ k = 5 ∨ k = 6 ∨ k = 7 ∨ k = 8 ∨ k = 9 ∨ k = 10 ∨ k = 11 ∨ k = 12 by omega) with rfl | rfl | rfl | rfl | rfl | rfl | rfl | rfl | rfl | rfl | rfl | rfl | rfl
  · exact ⟨0, 1, 127, 127, rfl, by decide, by decide, by decide, by decide, fix_idx0⟩
  · exact ⟨1, 1, 69, 69, rfl, by decide, by decide, by decide, by decide, fix_idx1⟩
  · exact ⟨2, 1, 76, 76, rfl, by decide, by decide, by decide, by decide, fix_idx2⟩
  · exact ⟨3, 1, 70, 70, rfl, by decide, by decide, by decide, by decide, fix_idx3⟩
  · exact ⟨4, 1, 2, 2, rfl, by decide, by decide, by decide, by decide, fix_idx4⟩
  · exact ⟨5, 1, 1, 1, rfl, by decide, by decide, by decide, by decide, fix_idx5⟩
  · exact ⟨6, 1, 1, 1, rfl, by decide, by decide, by decide, by decide, fix_idx6⟩
  · exact ⟨7, 1, 0, 3, rfl, by decide, by decide, by decide, by decide, fix_idx7⟩
  · exact ⟨16, 2, 2, 3, rfl, by decide, by decide, by decide, by decide, fix_idx8⟩
  · exact ⟨18, 2, 62, 62, rfl, by decide, by decide, by decide, by decide, fix_idx9⟩
  · exact ⟨20, 4, 1, 1, rfl, by decide, by decide, by decide, by decide, fix_idx10⟩
  · exact ⟨52, 2, 64, 64, rfl, by decide, by decide, by decide, by decide, fix_idx11⟩
  · exact ⟨54, 2, 56, 56, rfl, by decide, by decide, by decide, by decide, fix_idx12⟩
theorem const_drop (bs : List Nat) {k a n x y : Nat} (h : fixedF[k]? = some (a, n, x, y)) : constF bs (fixedF.drop k) = if numF bs a n = x ∨ numF bs a n = y then constF bs (fixedF.drop (k + 1)) else some (a, 3) := by
  have hk : k < fixedF.length := (List.getElem?_eq_some_iff.1 h).1
  have he : fixedF[k] = (a, n, x, y) := (List.getElem?_eq_some_iff.1 h).2
  rw [List.drop_eq_getElem_cons hk, he, constF]
def ConstPost (w0 : World) (tk : Nat × Array Value) (r : HRd) (bs : List Nat) (e : Ending) (w' : World) : Prop := (∃ v, e = .returned v ∧ ErrAt w' v (constF bs fixedF)) ∧ (constF bs fixedF = none → RdSt w0 tk { r with kind := (numF bs 16 2 : Int), entry := numF bs 24 8 } bs w') ∧ Below w0.heap.size w0 w'
set_option maxRecDepth 100000 in
set_option maxHeartbeats 16000000 in
theorem constants_any (w0 : World) (tk : Nat × Array Value) (r : HRd) (bs : List Nat) (w : World) (h : RdSt w0 tk r bs w) (hf : FixAt w0) :
    Calls Tryd.prog 23 #[.pointer (some ⟨r.rb, 0, none⟩)] w (ConstPost w0 tk r bs) := by
  have hbw : ∀ wx, Below w.heap.size w wx → BSl wx r.a r.m r.cap bs := fun wx hx => h.bytes.below (h.blw.trans (hx.mono h.blw.size))
  have HNA : Hid (∀ (a n : Nat) wx, a < 18446744073709551616 → wide n = true → Below w.heap.size w wx → Calls Tryd.prog 44 #[.slice r.a r.m r.cap, .int .u64 (a : Int), .int .i64 (n : Int)] wx fun e w' => e = .returned (.int .u64 (numF bs a n : Int)) ∧ Below wx.heap.size wx w') := Lib.hid (fun a n wx ha hw hx => (hbw wx hx).number a n ha hw)
  have hK2 : numF bs 16 2 < 65536 := by have := numF_lt h.bytes.row.2 16 2; have e : (256 : Nat) ^ 2 = 65536 := by decide
                                        omega
  have HFX : Hid (w.rangeAt 0 0 fixC) := Lib.hid (hf.below h.blw)
  have HPE : Hid (∀ v w' x, constF bs fixedF = some x → ErrAt w' v (some x) → Below w0.heap.size w0 w' → ConstPost w0 tk r bs (.returned v) w') := Lib.hid (fun v w' x e hv hb => ⟨⟨v, rfl, by rw [e]; exact hv⟩, (fun e2 => by rw [e] at e2; cases e2), hb⟩)
  have HPN : Hid (∀ w', constF bs fixedF = none → RdSt w0 tk { r with kind := (numF bs 16 2 : Int), entry := numF bs 24 8 } bs w' → ConstPost w0 tk r bs (.returned .nilIface) w') := Lib.hid (fun w' e hr => ⟨⟨_, rfl, by rw [e]; rfl⟩, fun _ => hr, hr.blw⟩)
  have HST := Lib.hid h
  generalize ConstPost w0 tk r bs = P at *
  have HR0 : Hid (constF bs (fixedF.drop 0) = constF bs fixedF) := Lib.hid rfl
  obtain ⟨FV, hFV⟩ : ∃ FV, fixC.toArray = FV := ⟨_, rfl⟩
  have HIX : Hid (∀ k : Nat, k < 13 → ∃ a n x y : Nat, fixedF[k]? = some (a, n, x, y) ∧ wide n = true ∧ a < 64 ∧ x < 256 ∧ y < 256 ∧ ∀ w, (Instr.index 61 (.agg FV) (.int .i64 (k : Int))).run Tryd.prog w = .ok (.agg #[.int .i64 (a : Int), .int .i64 (n : Int), .int .u64 (x : Int), .int .u64 (y : Int)]) w) := Lib.hid (fun k hk => by rw [← hFV]; exact fix_all k hk)
  have HFV := Lib.hid hFV
  have HIN : Hid ((Tryd.prog.info? 61).map (·.size) = some fixC.length) := Lib.hid (by kernel_rfl)
  obtain ⟨rb, k0, k1, k2, k3, a, m, cap, pa, pn, pc⟩ := r
  simp only [] at *
  have HAT : Hid (({ rb := rb, kind := k0, entry := k1, begin_ := k2, count := k3, a := a, m := m, cap := cap, pa := pa, pn := pn, pc := pc } : HRd).at w) := Lib.hid h.at_
  have HK2 := Lib.hid hK2
  clear h hbw hf hFV hK2
  go_enter Tryd.func23, Tryd.ntmps23
  go_wp2_with (refine wpList_load_mid rfl 61 _ rfl 0 0 (by rfl) fixC _ HFX.out Tryd.underlying61 rfl HIN.out ?_)
  rw [HFV.out]
  go_loopg [7] 13 (fun g iv wr => ∃ k : Nat, k + g = 13 ∧ iv = .int .i64 (k : Int) ∧ Hid (constF bs (fixedF.drop k) = constF bs fixedF) ∧ Hid (Below w.heap.size w wr))
  case atStart => exact ⟨0, by omega, rfl, HR0, Lib.hid (Below.refl _ _)⟩
  case round =>
    obtain ⟨k, hk, rfl, HG, HB⟩ := hrel
    cases gk with
    | zero =>
      obtain rfl : k = 13 := by omega
      clear hk
      have HN : Hid (constF bs fixedF = none) := Lib.hid HG.out.symm
      have HN1 := Lib.hid (HNA.out 16 2 wr (by decide) (by decide) HB.out)
      have hat := HAT.out.below HB.out
      have l4 : wr.cell? ⟨rb, 4, none⟩ = some (.slice a m cap) := by rw [hat.get]; rfl
      obtain ⟨V1, hV1⟩ : ∃ V1, numF bs 16 2 = V1 := ⟨_, rfl⟩
      obtain ⟨V2, hV2⟩ : ∃ V2, numF bs 24 8 = V2 := ⟨_, rfl⟩
      rw [hV1] at HN1 HPN HK2
      rw [hV2] at HPN
      have hwk : IntKind.i64.wrap (V1 : Int) = (V1 : Int) := by have := HK2.out; rw [IntKind.wrap_i64]; omega
      have HV2 := Lib.hid hV2
      clear hat hV1 hV2
      go_wp2_with fail
      refine HN1.out.mono ?_
      rintro e w5 ⟨rfl, hb5⟩
      have B5 := Lib.hid (bstep HB.out hb5)
      have HA5 := Lib.hid (HAT.out.below B5.out)
      have q0 : w5.cell? ⟨rb, 0, none⟩ = some (.int .i64 k0) := by rw [HA5.out.get]; rfl
      have f0 : w5.frozen? ⟨rb, 0, none⟩ = false := frozen_of_row _ _ _ _ _ HA5.out
      have q4 : (w5.setCell ⟨rb, 0, none⟩ (.int .i64 (V1 : Int))).cell? ⟨rb, 4, none⟩ = some (.slice a m cap) := by
        rw [setOther2 (by simp), HA5.out.get]
        rfl
      have HR6 : Hid (RdSt w0 tk { rb := rb, kind := (V1 : Int), entry := k1, begin_ := k2, count := k3, a := a, m := m, cap := cap, pa := pa, pn := pn, pc := pc } bs (w5.setCell ⟨rb, 0, none⟩ (.int .i64 (V1 : Int)))) := Lib.hid ⟨heap_setCell_same w5 rb 0 _ _ _ HA5.out, (HST.out.blw.trans (B5.out.mono HST.out.blw.size)).setCell (p := ⟨rb, 0, none⟩) HST.out.ge _, HST.out.ge, HST.out.bytes, (HST.out.kept.below B5.out).set 0 _⟩
      have HN2 : Hid (Calls Tryd.prog 44 #[.slice a m cap, .int .u64 24, .int .i64 8] (w5.setCell ⟨rb, 0, none⟩ (.int .i64 (V1 : Int))) fun e w' => e = .returned (.int .u64 (V2 : Int)) ∧ Below (w5.setCell ⟨rb, 0, none⟩ (.int .i64 (V1 : Int))).heap.size (w5.setCell ⟨rb, 0, none⟩ (.int .i64 (V1 : Int))) w') := Lib.hid (by
        have := (HR6.out.bytes.below HR6.out.blw).number 24 8 (by decide) (by decide)
        rw [HV2.out] at this
        exact this)
      clear hb5 l4
      go_wp2_with fail
      refine HN2.out.mono ?_
      rintro e w7 ⟨rfl, hb7⟩
      have HA7 := Lib.hid (HR6.out.at_.below hb7)
      have B7 := Lib.hid (HR6.out.blw.trans (hb7.mono HR6.out.blw.size))
      have q1 : w7.cell? ⟨rb, 1, none⟩ = some (.int .u64 (k1 : Int)) := by rw [HA7.out.get]; rfl
      have f1 : w7.frozen? ⟨rb, 1, none⟩ = false := frozen_of_row _ _ _ _ _ HA7.out
      have HR8 : Hid (RdSt w0 tk { rb := rb, kind := (V1 : Int), entry := V2, begin_ := k2, count := k3, a := a, m := m, cap := cap, pa := pa, pn := pn, pc := pc } bs (w7.setCell ⟨rb, 1, none⟩ (.int .u64 (V2 : Int)))) := Lib.hid ⟨heap_setCell_same w7 rb 1 _ _ _ HA7.out, B7.out.setCell (p := ⟨rb, 1, none⟩) HST.out.ge _, HST.out.ge, HST.out.bytes, (HR6.out.kept.below hb7).set 1 _⟩
      clear hb7 q0 f0 q4
      go_wp2_with fail
      exact HPN.out _ HN.out HR8.out
    | succ g =>
      have hk13 : k < 13 := by omega
      obtain ⟨fa, fn, fx, fy, hfk, hfw, hfa, hfx, hfy, hidx⟩ := HIX.out k hk13
      have HNU : Hid (∀ wx, Below w.heap.size w wx → Calls Tryd.prog 44 #[.slice a m cap, .int .u64 (fa : Int), .int .i64 (fn : Int)] wx fun e w' => e = .returned (.int .u64 (numF bs fa fn : Int)) ∧ Below wx.heap.size wx w') := Lib.hid (fun wx hx => HNA.out fa fn wx (by omega) hfw hx)
      have HCD := Lib.hid (const_drop bs hfk)
      obtain ⟨V, hV⟩ : ∃ V, numF bs fa fn = V := ⟨_, rfl⟩
      rw [hV] at HNU HCD
      have HKK := Lib.hid hk
      have i0 : (0 : Int) ≤ (k : Int) := by omega
      have i1 : (k : Int) < 13 := by omega
      have tk : decide ((k : Int) < 13) = true := decide_eq_true (by omega)
      have wfa : IntKind.u64.wrap (fa : Int) = (fa : Int) := by rw [IntKind.wrap_u64]; omega
      have HFA : Hid (fa < 64) := Lib.hid hfa
      obtain ⟨xb, hxb⟩ : ∃ xb, wr.heap.size = xb := ⟨_, rfl⟩
      obtain ⟨w3, hw3⟩ : ∃ w3, wr.alloc (.cells #[.int .i64 (fa : Int), .int .i64 (fn : Int), .int .u64 (fx : Int), .int .u64 (fy : Int)] 60) = w3 := ⟨_, rfl⟩
      have B3 : Hid (Below w.heap.size w w3) := Lib.hid (by rw [← hw3]; exact ballo HB.out _)
      have X3 : Hid (w3.heap[xb]? = some (.cells #[.int .i64 (fa : Int), .int .i64 (fn : Int), .int .u64 (fx : Int), .int .u64 (fy : Int)] 60)) := Lib.hid (by rw [← hw3, ← hxb]; exact heap_alloc_new _ _)
      have KS : Hid (∀ wx, Below w3.heap.size w3 wx → wx.cell? ⟨rb, 4, none⟩ = some (.slice a m cap) ∧ wx.cell? ⟨xb, 0, none⟩ = some (.int .i64 (fa : Int)) ∧ wx.cell? ⟨xb, 1, none⟩ = some (.int .i64 (fn : Int))) := Lib.hid (fun wx hx => by
        have hr := (hx.block _ (lt_of_block X3.out)).trans X3.out
        exact ⟨by rw [(HAT.out.below (bstep B3.out hx)).get]; rfl, by rw [cell_of_row _ _ 0 _ _ _ hr]; rfl, by rw [cell_of_row _ _ 1 _ _ _ hr]; rfl⟩)
      have H3 := Stp.mk (show Below w.heap.size w w3 from B3.out)
      clear hk hfk hfw hfa hV
      go_wp2_with fail
      clear hxb hw3 hidx
      refine wp_region_held_drew (S := fun wx => Below w3.heap.size w3 wx) (by kernel_rfl) ((Below.refl _ _).drew) (fun hHeld => ?_)
      first
        | (refine wpAnyH_take (i := 0) (v := ?_) rfl (by kernel_rfl) (by kernel_rfl) (by kernel_rfl) (fun _ _ _ h => h) (Or.inl ⟨by rfl, ?_⟩) (by assumption) ?_
           rotate_left
           · intro wx hSw
             obtain ⟨s0, s1, s2⟩ := KS.out wx hSw
             (first | (go_simp; rfl) | go_simp | rfl))
        | refine wpAnyH_take (i := 0) (v := undef) rfl (by kernel_rfl) (by kernel_rfl) (by kernel_rfl) (fun _ _ _ h => h) (Or.inr ⟨by rfl, rfl⟩) (by assumption) ?_
      try simp only [List.getElem_toArray, List.getElem_cons_zero, List.getElem_cons_succ, Act.put, List.setIfInBounds_toArray, List.set_cons_zero, List.set_cons_succ, Array.toArray_toList]
      first
        | (refine wpAnyH_take (i := 1) (v := ?_) rfl (by kernel_rfl) (by kernel_rfl) (by kernel_rfl) (fun _ _ _ h => h) (Or.inl ⟨by rfl, ?_⟩) (by assumption) ?_
           rotate_left
           · intro wx hSw
             obtain ⟨s0, s1, s2⟩ := KS.out wx hSw
             (first | (go_simp; rfl) | go_simp | rfl))
        | refine wpAnyH_take (i := 1) (v := undef) rfl (by kernel_rfl) (by kernel_rfl) (by kernel_rfl) (fun _ _ _ h => h) (Or.inr ⟨by rfl, rfl⟩) (by assumption) ?_
      try simp only [List.getElem_toArray, List.getElem_cons_zero, List.getElem_cons_succ, Act.put, List.setIfInBounds_toArray, List.set_cons_zero, List.set_cons_succ, Array.toArray_toList]
      first
        | (refine wpAnyH_take (i := 2) (v := ?_) rfl (by kernel_rfl) (by kernel_rfl) (by kernel_rfl) (fun _ _ _ h => h) (Or.inl ⟨by rfl, ?_⟩) (by assumption) ?_
           rotate_left
           · intro wx hSw
             obtain ⟨s0, s1, s2⟩ := KS.out wx hSw
             (first | (go_simp; rfl) | go_simp | rfl))
        | refine wpAnyH_take (i := 2) (v := undef) rfl (by kernel_rfl) (by kernel_rfl) (by kernel_rfl) (fun _ _ _ h => h) (Or.inr ⟨by rfl, rfl⟩) (by assumption) ?_
      try simp only [List.getElem_toArray, List.getElem_cons_zero, List.getElem_cons_succ, Act.put, List.setIfInBounds_toArray, List.set_cons_zero, List.set_cons_succ, Array.toArray_toList]
      first
        | (refine wpAnyH_take (i := 3) (v := ?_) rfl (by kernel_rfl) (by kernel_rfl) (by kernel_rfl) (fun _ _ _ h => h) (Or.inl ⟨by rfl, ?_⟩) (by assumption) ?_
           rotate_left
           · intro wx hSw
             obtain ⟨s0, s1, s2⟩ := KS.out wx hSw
             (first | (go_simp; rfl) | go_simp | rfl))
        | refine wpAnyH_take (i := 3) (v := undef) rfl (by kernel_rfl) (by kernel_rfl) (by kernel_rfl) (fun _ _ _ h => h) (Or.inr ⟨by rfl, rfl⟩) (by assumption) ?_
      try simp only [List.getElem_toArray, List.getElem_cons_zero, List.getElem_cons_succ, Act.put, List.setIfInBounds_toArray, List.set_cons_zero, List.set_cons_succ, Array.toArray_toList]
      first
        | (refine wpAnyH_take (i := 4) (v := ?_) rfl (by kernel_rfl) (by kernel_rfl) (by kernel_rfl) (fun _ _ _ h => h) (Or.inl ⟨by rfl, ?_⟩) (by assumption) ?_
           rotate_left
           · intro wx hSw
             obtain ⟨s0, s1, s2⟩ := KS.out wx hSw
             (first | (go_simp; rfl) | go_simp | rfl))
        | refine wpAnyH_take (i := 4) (v := undef) rfl (by kernel_rfl) (by kernel_rfl) (by kernel_rfl) (fun _ _ _ h => h) (Or.inr ⟨by rfl, rfl⟩) (by assumption) ?_
      try simp only [List.getElem_toArray, List.getElem_cons_zero, List.getElem_cons_succ, Act.put, List.setIfInBounds_toArray, List.set_cons_zero, List.set_cons_succ, Array.toArray_toList]
      first
        | (refine wpAnyH_take (i := 5) (v := ?_) rfl (by kernel_rfl) (by kernel_rfl) (by kernel_rfl) (fun _ _ _ h => h) (Or.inl ⟨by rfl, ?_⟩) (by assumption) ?_
           rotate_left
           · intro wx hSw
             obtain ⟨s0, s1, s2⟩ := KS.out wx hSw
             (first | (go_simp; rfl) | go_simp | rfl))
        | refine wpAnyH_take (i := 5) (v := undef) rfl (by kernel_rfl) (by kernel_rfl) (by kernel_rfl) (fun _ _ _ h => h) (Or.inr ⟨by rfl, rfl⟩) (by assumption) ?_
      try simp only [List.getElem_toArray, List.getElem_cons_zero, List.getElem_cons_succ, Act.put, List.setIfInBounds_toArray, List.set_cons_zero, List.set_cons_succ, Array.toArray_toList]
      first
        | (refine wpAnyH_take (i := 6) (v := ?_) rfl (by kernel_rfl) (by kernel_rfl) (by kernel_rfl) (fun _ _ _ h => h) (Or.inl ⟨by rfl, ?_⟩) (by assumption) ?_
           rotate_left
           · intro wx hSw
             obtain ⟨s0, s1, s2⟩ := KS.out wx hSw
             (first | (go_simp; rfl) | go_simp | rfl))
        | refine wpAnyH_take (i := 6) (v := undef) rfl (by kernel_rfl) (by kernel_rfl) (by kernel_rfl) (fun _ _ _ h => h) (Or.inr ⟨by rfl, rfl⟩) (by assumption) ?_
      try simp only [List.getElem_toArray, List.getElem_cons_zero, List.getElem_cons_succ, Act.put, List.setIfInBounds_toArray, List.set_cons_zero, List.set_cons_succ, Array.toArray_toList]
      first
        | (refine wpAnyH_take (i := 7) (v := ?_) rfl (by kernel_rfl) (by kernel_rfl) (by kernel_rfl) (fun _ _ _ h => h) (Or.inl ⟨by rfl, ?_⟩) (by assumption) ?_
           rotate_left
           · intro wx hSw
             obtain ⟨s0, s1, s2⟩ := KS.out wx hSw
             (first | (go_simp; rfl) | go_simp | rfl))
        | refine wpAnyH_take (i := 7) (v := undef) rfl (by kernel_rfl) (by kernel_rfl) (by kernel_rfl) (fun _ _ _ h => h) (Or.inr ⟨by rfl, rfl⟩) (by assumption) ?_
      try simp only [List.getElem_toArray, List.getElem_cons_zero, List.getElem_cons_succ, Act.put, List.setIfInBounds_toArray, List.set_cons_zero, List.set_cons_succ, Array.toArray_toList]
      first
        | (refine wpAnyH_take (i := 8) (v := ?_) rfl (by kernel_rfl) (by kernel_rfl) (by kernel_rfl) (fun _ _ _ h => h) (Or.inl ⟨by rfl, ?_⟩) (by assumption) ?_
           rotate_left
           · intro wx hSw
             obtain ⟨s0, s1, s2⟩ := KS.out wx hSw
             (first | (go_simp; rfl) | go_simp | rfl))
        | refine wpAnyH_take (i := 8) (v := undef) rfl (by kernel_rfl) (by kernel_rfl) (by kernel_rfl) (fun _ _ _ h => h) (Or.inr ⟨by rfl, rfl⟩) (by assumption) ?_
      try simp only [List.getElem_toArray, List.getElem_cons_zero, List.getElem_cons_succ, Act.put, List.setIfInBounds_toArray, List.set_cons_zero, List.set_cons_succ, Array.toArray_toList]
      refine wpAnyH_ready (rs := [9]) (by kernel_rfl) (by simp) ?_
      refine AllReadyH.cons rfl (fun K hK => ?_) AllReadyH.nil
      go_simp
      refine (HNU.out _ (by (repeat (first | exact Below.refl _ _ | refine bdrew ?_ | refine ballo ?_ _ | refine bsteps ?_ (by assumption))))).mono ?_
      rintro e w5 ⟨rfl, b5⟩
      have H5 := Stp.mk b5
      try go_simp
      refine hK.out _ _ (bstep (by assumption) b5) (fun hHeld => ?_)
      clear hK K b5
      try simp only [List.getElem_toArray, List.getElem_cons_zero, List.getElem_cons_succ, Act.put, List.setIfInBounds_toArray, List.set_cons_zero, List.set_cons_succ, Array.toArray_toList]
      first
        | (refine wpAnyH_take (i := 10) (v := ?_) rfl (by kernel_rfl) (by kernel_rfl) (by kernel_rfl) (fun _ _ _ h => h) (Or.inl ⟨by rfl, ?_⟩) (by assumption) ?_
           rotate_left
           · intro wx hSw
             obtain ⟨s0, s1, s2⟩ := KS.out wx hSw
             (first | (go_simp; rfl) | go_simp | rfl))
        | refine wpAnyH_take (i := 10) (v := undef) rfl (by kernel_rfl) (by kernel_rfl) (by kernel_rfl) (fun _ _ _ h => h) (Or.inr ⟨by rfl, rfl⟩) (by assumption) ?_
      try simp only [List.getElem_toArray, List.getElem_cons_zero, List.getElem_cons_succ, Act.put, List.setIfInBounds_toArray, List.set_cons_zero, List.set_cons_succ, Array.toArray_toList]
      refine wpAnyH_done (by kernel_rfl) ?_ _
      have H7 : Hid (Below w3.heap.size w3 w5) := Lib.hid hHeld
      have X5 := Lib.hid ((H7.out.block _ (lt_of_block X3.out)).trans X3.out)
      have x2 : w5.cell? ⟨xb, 2, none⟩ = some (.int .u64 (fx : Int)) := by rw [cell_of_row _ _ 2 _ _ _ X5.out]; rfl
      have x3 : w5.cell? ⟨xb, 3, none⟩ = some (.int .u64 (fy : Int)) := by rw [cell_of_row _ _ 3 _ _ _ X5.out]; rfl
      have x0 : w5.cell? ⟨xb, 0, none⟩ = some (.int .i64 (fa : Int)) := by rw [cell_of_row _ _ 0 _ _ _ X5.out]; rfl
      have B5 : Hid (Below w.heap.size w w5) := Lib.hid (bstep B3.out H7.out)
      clear hHeld KS HNU
      by_cases h1 : V = fx
      · have HG2 : Hid (constF bs (fixedF.drop (k + 1)) = constF bs fixedF) := Lib.hid (by rw [← HG.out, HCD.out, if_pos (.inl h1)])
        have t1 : ((V : Int) != (fx : Int)) = false := by rw [h1]; simp
        clear h1 hfx hfy
        go_wp2_with fail
        go_roundg g
        case measure => have := HKK.out; omega
        case rel => exact ⟨k + 1, by have := HKK.out; omega, by go_num, HG2, B5⟩
      · have t1 : ((V : Int) != (fx : Int)) = true := by rw [bne_iff_ne]; omega
        by_cases h2 : V = fy
        · have HG2 : Hid (constF bs (fixedF.drop (k + 1)) = constF bs fixedF) := Lib.hid (by rw [← HG.out, HCD.out, if_pos (.inr h2)])
          have t2 : ((V : Int) != (fy : Int)) = false := by rw [h2]; simp
          clear h1 h2 hfx hfy
          go_wp2_with fail
          go_roundg g
          case measure => have := HKK.out; omega
          case rel => exact ⟨k + 1, by have := HKK.out; omega, by go_num, HG2, B5⟩
        · have HER : Hid (constF bs fixedF = some (fa, 3)) := Lib.hid (by rw [← HG.out, HCD.out, if_neg (by rintro (h | h); exact h1 h; exact h2 h)])
          have t2 : ((V : Int) != (fy : Int)) = true := by rw [bne_iff_ne]; omega
          have HSP : Hid (Calls Tryd.prog 21 #[.int .u64 (fa : Int), .int .i64 3] w5 (TestPost (some (fa, 3)) w5)) := Lib.hid (hspot_any fa 3 w5 (by have := HFA.out; omega))
          clear h1 h2 hfx hfy
          go_wp2_with fail
          refine HSP.out.mono ?_
          rintro e w6 ⟨⟨v, rfl, hv⟩, hb6⟩
          have HV := Lib.hid hv
          have B6 : Hid (Below w0.heap.size w0 w6) := Lib.hid (HST.out.blw.trans ((bstep B5.out hb6).mono HST.out.blw.size))
          clear hv hb6
          go_wp2_with fail
          exact HPE.out _ _ _ HER.out HV.out B6.out
end Go.Proofs.YtmjfkcclhbpclaaDoor
