/- Layer 12: an operand that is a register of eight bytes. -/
import Derived.Test.YtmnjkaimpejohaaGreatDoorDecORow
namespace Go.Proofs.YtmnjkaimpejohaaGreatDoor
open Go.RowKit
set_option linter.unusedVariables false
set_option linter.unusedSimpArgs false

theorem ten_stores {w : World} {b : Nat} {T : TypeId} {u0 u1 u2 u3 u4 u5 u6 u7 u8 u9 : Value} (E : w.heap[b]? = some (.cells #[u0, u1, u2, u3, u4, u5, u6, u7, u8, u9] T)) (v0 v1 v2 v3 v4 v5 v6 v7 v8 v9 : Value) :
    ((((((((((w.setCell ⟨b, 0, none⟩ v0).setCell ⟨b, 1, none⟩ v1).setCell ⟨b, 2, none⟩ v2).setCell ⟨b, 3, none⟩ v3).setCell ⟨b, 4, none⟩ v4).setCell ⟨b, 5, none⟩ v5).setCell ⟨b, 6, none⟩ v6).setCell ⟨b, 7, none⟩ v7).setCell ⟨b, 8, none⟩ v8).setCell ⟨b, 9, none⟩ v9) = w.setRow b #[v0, v1, v2, v3, v4, v5, v6, v7, v8, v9] := by
  have step : ∀ (cs : Array Value) (i : Nat) (v : Value), (w.setRow b cs).setCell ⟨b, i, none⟩ v = w.setRow b (cs.setIfInBounds i v) := fun cs i v => by
    rw [setCell_eq_setRow _ _ _ _ _ _ _ (setRow_heap w b _ cs T (0, 0) E), setRow_setRow]
  rw [setCell_eq_setRow w b 0 _ _ _ _ E, step, step, step, step, step, step, step, step, step]
  simp only [List.setIfInBounds_toArray, List.set_cons_zero, List.set_cons_succ]
theorem andB8 : ∀ c : Fin 256, bits .and .u8 (c.val : Int) 8 = ((c.val / 8 % 2 * 8 : Nat) : Int) := by decide +kernel
theorem andB4 : ∀ c : Fin 256, bits .and .u8 (c.val : Int) 4 = ((c.val / 4 % 2 * 4 : Nat) : Int) := by decide +kernel
theorem andB1 : ∀ c : Fin 256, bits .and .u8 (c.val : Int) 1 = ((c.val % 2 : Nat) : Int) := by decide +kernel
/-- a register's operand -/
def regV (n W : Nat) : Value := .agg #[.int .i64 1, .int .i64 (n : Int), .int .i64 (W : Int), .int .i64 0, .int .i64 0, .int .i64 0, .int .i64 0, .int .i64 0, .bool false, .bool false]
theorem small_wrap (a b : Nat) (ha : a < 8) (hb : b ≤ 8) : IntKind.i64.wrap (IntKind.i64.wrap (a : Int) + (b : Int)) = ((a + b : Nat) : Int) := by
  rw [IntKind.wrap_i64, IntKind.wrap_i64]
  omega
theorem regval1 (fm hi : Nat) (hf : fm < 256) (hh : hi ≤ 8) : IntKind.i64.wrap (IntKind.i64.wrap (bits .and .u8 ((fm : Int) / 8) 7) + (hi : Int)) = ((fm / 8 % 8 + hi : Nat) : Int) := by
  have e : (fm : Int) / 8 = ((fm / 8 : Nat) : Int) := by omega
  have h8 : fm / 8 < 256 := by omega
  rw [e, show bits .and .u8 ((fm / 8 : Nat) : Int) 7 = ((fm / 8 % 8 : Nat) : Int) from and7 ⟨fm / 8, h8⟩]
  exact small_wrap _ _ (Nat.mod_lt _ (by decide)) hh
theorem regval2 (fm hi : Nat) (hf : fm < 256) (hh : hi ≤ 8) : IntKind.i64.wrap (IntKind.i64.wrap (bits .and .u8 (fm : Int) 7) + (hi : Int)) = ((fm % 8 + hi : Nat) : Int) := by
  rw [show bits .and .u8 (fm : Int) 7 = ((fm % 8 : Nat) : Int) from and7 ⟨fm, hf⟩]
  exact small_wrap _ _ (Nat.mod_lt _ (by decide)) hh
def opndZ : Value := .agg #[.int .i64 0, .int .i64 0, .int .i64 0, .int .i64 0, .int .i64 0, .int .i64 0, .int .i64 0, .int .i64 0, .bool false, .bool false]
set_option maxRecDepth 100000 in
set_option maxHeartbeats 8000000 in
theorem register_any (tb : Nat) (n W : Int) (w : World) (h : w.cell? ⟨tb, 0, none⟩ = some (.int .i64 W)) (hb : tb < w.heap.size) :
    Calls Tryz.prog 71 #[.int .i64 n, .pointer (some ⟨tb, 0, none⟩)] w fun e w' => e = .returned (.agg #[.int .i64 1, .int .i64 n, .int .i64 W, .int .i64 0, .int .i64 0, .int .i64 0, .int .i64 0, .int .i64 0, .bool false, .bool false]) ∧ Below w.heap.size w w' := by
  have XB : Hid ((w.alloc (.cells #[.int .i64 0, .int .i64 0, .int .i64 0, .int .i64 0, .int .i64 0, .int .i64 0, .int .i64 0, .int .i64 0, .bool false, .bool false] 52)).heap[w.heap.size]? = some (.cells #[.int .i64 0, .int .i64 0, .int .i64 0, .int .i64 0, .int .i64 0, .int .i64 0, .int .i64 0, .int .i64 0, .bool false, .bool false] 52)) := Lib.hid (heap_alloc_new _ _)
  go_enter Tryz.func71, Tryz.ntmps71
  go_wp2_with fail
  go_returns
  exact ⟨rfl, by go_grown⟩
set_option maxRecDepth 100000 in
theorem high_any (rb : Nat) (d : DS) (bs : List Nat) (w : World) (b : Nat) (h : DAt w rb d bs) (he : d.ext < 256) (hb : b = 1 ∨ b = 4) :
    Calls Tryz.prog 73 #[.pointer (some ⟨rb, 0, none⟩), .int .u8 (b : Int)] w fun e w' => e = .returned (.int .i64 ((if d.ext / b % 2 = 1 then 8 else 0 : Nat) : Int)) ∧ w = w' := by
  have k5 : w.cell? ⟨rb, 5, none⟩ = some (.int .u8 (d.ext : Int)) := by rw [cell_of_row _ _ 5 _ _ _ h.box]; rfl
  have a1 : bits .and .u8 (d.ext : Int) (b : Int) = ((d.ext / b % 2 * b : Nat) : Int) := by
    rcases hb with rfl | rfl
    · have := andB1 ⟨d.ext, he⟩; simp only [Nat.div_one, Nat.mul_one]; exact this
    · exact andB4 ⟨d.ext, he⟩
  have hb0 : 0 < b := by omega
  generalize d.ext = ex at *
  clear h hb
  rcases Nat.mod_two_eq_zero_or_one (ex / b) with hz | hz
  · rw [hz, Nat.zero_mul] at a1
    rw [hz, if_neg (by decide)]
    go_enter Tryz.func73, Tryz.ntmps73
    go_wp2_with fail
    go_ret
    exact ⟨rfl, rfl⟩
  · rw [hz, Nat.one_mul] at a1
    rw [hz, if_pos rfl]
    have t1 : ((b : Int) != 0) = true := by simp; omega
    go_enter Tryz.func73, Tryz.ntmps73
    go_wp2_with fail
    go_ret
    exact ⟨rfl, rfl⟩
set_option maxRecDepth 100000 in
set_option maxHeartbeats 16000000 in
theorem operand_reg (rb : Nat) (d : DS) (bs : List Nat) (w : World) (h : DAt w rb d bs) (he : d.ext < 256) (h8 : d.ext / 8 % 2 = 1) (hf : d.form < 256) :
    Calls Tryz.prog 41 #[.pointer (some ⟨rb, 0, none⟩), .agg #[.int .u8 1, .int .u8 0]] w fun e w' => e = .returned (regV (d.form / 8 % 8 + (if d.ext / 4 % 2 = 1 then 8 else 0)) 8) ∧ Below w.heap.size w w' := by
  obtain ⟨hi, hhi⟩ : ∃ hi, (if d.ext / 4 % 2 = 1 then 8 else 0 : Nat) = hi := ⟨_, rfl⟩
  have hhl : hi ≤ 8 := by rw [← hhi]; split <;> omega
  have HHI : Hid (∀ wx, Below w.heap.size w wx → Calls Tryz.prog 73 #[.pointer (some ⟨rb, 0, none⟩), .int .u8 4] wx fun e w' => e = .returned (.int .i64 (hi : Int)) ∧ wx = w') := Lib.hid (fun wx hb => by rw [← hhi]; exact high_any rb d bs wx 4 (h.below hb) he (by decide))
  have a8 : bits .and .u8 (d.ext : Int) 8 = 8 := by have := andB8 ⟨d.ext, he⟩; rw [h8] at this; exact this
  have K5 : Hid (∀ wx, Below w.heap.size w wx → wx.cell? ⟨rb, 5, none⟩ = some (.int .u8 (d.ext : Int)) ∧ wx.cell? ⟨rb, 7, none⟩ = some (.int .u8 (d.form : Int))) := Lib.hid (fun wx hb => by
    have h2 := h.below hb
    exact ⟨by rw [cell_of_row _ _ 5 _ _ _ h2.box]; rfl, by rw [cell_of_row _ _ 7 _ _ _ h2.box]; rfl⟩)
  have hlt := h.lt
  rw [hhi]
  obtain ⟨k5, k7⟩ := K5.out w (Below.refl _ _)
  unfold regV
  obtain ⟨ex, hex⟩ : ∃ ex, d.ext = ex := ⟨_, rfl⟩
  obtain ⟨fm, hfm⟩ : ∃ fm, d.form = fm := ⟨_, rfl⟩
  rw [hex] at K5 k5 a8
  rw [hfm] at K5 k7 hf ⊢
  have HV : Hid (IntKind.i64.wrap (IntKind.i64.wrap (bits .and .u8 ((fm : Int) / 8) 7) + (hi : Int)) = ((fm / 8 % 8 + hi : Nat) : Int)) := Lib.hid (regval1 fm hi hf hhl)
  clear h hex hfm h8 he hhi
  have XN := Lib.hid (three_new w #[.int .u8 1, .int .u8 0] #[.int .i64 0, .int .i64 0, .int .i64 0, .int .i64 0, .int .i64 0, .int .i64 0, .int .i64 0, .int .i64 0, .bool false, .bool false] #[.int .i64 4] 102 52 3)
  have BN : Hid (Below w.heap.size w (((w.alloc (.cells #[.int .u8 1, .int .u8 0] 102)).alloc (.cells #[.int .i64 0, .int .i64 0, .int .i64 0, .int .i64 0, .int .i64 0, .int .i64 0, .int .i64 0, .int .i64 0, .bool false, .bool false] 52)).alloc (.cells #[.int .i64 4] 3))) := Lib.hid (by go_grown)
  go_enter Tryz.func41, Tryz.ntmps41
  go_upto_region 4 with fail
  obtain ⟨b3, hb3⟩ : ∃ b, w.heap.size = b := ⟨_, rfl⟩
  obtain ⟨b4, hb4⟩ : ∃ b, w.heap.size + 1 = b := ⟨_, rfl⟩
  obtain ⟨b5, hb5⟩ : ∃ b, w.heap.size + 2 = b := ⟨_, rfl⟩
  have hb6 : w.heap.size + 1 + 1 = b5 := hb5
  generalize ((w.alloc (.cells #[.int .u8 1, .int .u8 0] 102)).alloc (.cells #[.int .i64 0, .int .i64 0, .int .i64 0, .int .i64 0, .int .i64 0, .int .i64 0, .int .i64 0, .int .i64 0, .bool false, .bool false] 52)).alloc (.cells #[.int .i64 4] 3) = w4 at *
  rw [hb5, hb4, hb3] at XN
  try rw [hb6]
  try rw [hb4]
  try rw [hb3]
  have NE : Hid (b3 ≠ b5 ∧ b4 ≠ b5 ∧ rb ≠ b5 ∧ w.heap.size ≤ b4 ∧ w.heap.size ≤ b5) := Lib.hid (by omega)
  have k5' : w4.cell? ⟨rb, 5, none⟩ = some (.int .u8 (ex : Int)) := (K5.out _ BN.out).1
  have z5 : w4.cell? ⟨b5, 0, none⟩ = some (.int .i64 4) := by rw [cell_of_row _ _ 0 _ _ _ XN.out.2.2]; rfl
  have y5 : w4.frozen? ⟨b5, 0, none⟩ = false := frozen_of_row _ _ _ _ _ XN.out.2.2
  clear hb6
  go_upto_region 6 with fail
  have X5 : Hid ((w4.setCell ⟨b5, 0, none⟩ (.int .i64 8)).heap[b5]? = some (.cells #[.int .i64 8] 3)) := Lib.hid (block_set XN.out.2.2)
  have hn5 := (Near.refl b5 w4).set 0 (.int .i64 8)
  have X4 : Hid ((w4.setCell ⟨b5, 0, none⟩ (.int .i64 8)).heap[b4]? = some (.cells #[.int .i64 0, .int .i64 0, .int .i64 0, .int .i64 0, .int .i64 0, .int .i64 0, .int .i64 0, .int .i64 0, .bool false, .bool false] 52)) := Lib.hid ((hn5.block (lt_of_block XN.out.2.1) NE.out.2.1).trans XN.out.2.1)
  have X3 : Hid ((w4.setCell ⟨b5, 0, none⟩ (.int .i64 8)).heap[b3]? = some (.cells #[.int .u8 1, .int .u8 0] 102)) := Lib.hid ((hn5.block (lt_of_block XN.out.1) NE.out.1).trans XN.out.1)
  have B5 : Hid (Below w.heap.size w (w4.setCell ⟨b5, 0, none⟩ (.int .i64 8))) := Lib.hid (BN.out.setCell NE.out.2.2.2.2 _)
  clear k5' z5 y5 hn5
  generalize w4.setCell ⟨b5, 0, none⟩ (.int .i64 8) = w5 at *
  have p0 : w5.cell? ⟨b3, 0, none⟩ = some (.int .u8 1) := by rw [cell_of_row _ _ 0 _ _ _ X3.out]; rfl

  go_upto_region 10 with fail
  clear p0
  have KQ : Hid (∀ wx, Below w5.heap.size w5 wx → wx.cell? ⟨rb, 7, none⟩ = some (.int .u8 (fm : Int)) ∧ wx.cell? ⟨b5, 0, none⟩ = some (.int .i64 8)) := Lib.hid (fun wx hb => ⟨(K5.out _ (B5.out.trans (hb.mono B5.out.size))).2, by rw [cell_of_row _ _ 0 _ _ _ ((hb.block _ (lt_of_block X5.out)).trans X5.out)]; rfl⟩)
  have HHJ : Hid (∀ wx, Below w5.heap.size w5 wx → Calls Tryz.prog 73 #[.pointer (some ⟨rb, 0, none⟩), .int .u8 4] wx fun e w' => e = .returned (.int .i64 (hi : Int)) ∧ wx = w') := Lib.hid (fun wx hb => HHI.out wx (B5.out.trans (hb.mono B5.out.size)))
  have HRG : Hid (∀ n wx, Below w5.heap.size w5 wx → Calls Tryz.prog 71 #[.int .i64 n, .pointer (some ⟨b5, 0, none⟩)] wx fun e w' => e = .returned (.agg #[.int .i64 1, .int .i64 n, .int .i64 8, .int .i64 0, .int .i64 0, .int .i64 0, .int .i64 0, .int .i64 0, .bool false, .bool false]) ∧ Below w5.heap.size w5 w' ∧ w'.cell? ⟨rb, 7, none⟩ = some (.int .u8 (fm : Int)) ∧ w'.heap[b4]? = some (.cells #[.int .i64 0, .int .i64 0, .int .i64 0, .int .i64 0, .int .i64 0, .int .i64 0, .int .i64 0, .int .i64 0, .bool false, .bool false] 52) ∧ (w'.cell? ⟨b4, 0, none⟩ = some (.int .i64 0) ∧ w'.frozen? ⟨b4, 0, none⟩ = false) ∧ (w'.cell? ⟨b4, 1, none⟩ = some (.int .i64 0) ∧ w'.frozen? ⟨b4, 1, none⟩ = false) ∧ (w'.cell? ⟨b4, 2, none⟩ = some (.int .i64 0) ∧ w'.frozen? ⟨b4, 2, none⟩ = false) ∧ (w'.cell? ⟨b4, 3, none⟩ = some (.int .i64 0) ∧ w'.frozen? ⟨b4, 3, none⟩ = false) ∧ (w'.cell? ⟨b4, 4, none⟩ = some (.int .i64 0) ∧ w'.frozen? ⟨b4, 4, none⟩ = false) ∧ (w'.cell? ⟨b4, 5, none⟩ = some (.int .i64 0) ∧ w'.frozen? ⟨b4, 5, none⟩ = false) ∧ (w'.cell? ⟨b4, 6, none⟩ = some (.int .i64 0) ∧ w'.frozen? ⟨b4, 6, none⟩ = false) ∧ (w'.cell? ⟨b4, 7, none⟩ = some (.int .i64 0) ∧ w'.frozen? ⟨b4, 7, none⟩ = false) ∧ (w'.cell? ⟨b4, 8, none⟩ = some (.bool false) ∧ w'.frozen? ⟨b4, 8, none⟩ = false) ∧ (w'.cell? ⟨b4, 9, none⟩ = some (.bool false) ∧ w'.frozen? ⟨b4, 9, none⟩ = false)) := Lib.hid (fun n wx hb => (register_any b5 n 8 wx (KQ.out wx hb).2 (by have := lt_of_block X5.out; have := hb.size; omega)).mono fun e w' hh => by
    have hB := bstep hb hh.2
    have h := (hB.block _ (lt_of_block X4.out)).trans X4.out
    exact ⟨hh.1, hB, (KQ.out _ hB).1, h, ⟨by rw [cell_of_row _ _ 0 _ _ _ h]; rfl, frozen_of_row _ _ _ _ _ h⟩, ⟨by rw [cell_of_row _ _ 1 _ _ _ h]; rfl, frozen_of_row _ _ _ _ _ h⟩, ⟨by rw [cell_of_row _ _ 2 _ _ _ h]; rfl, frozen_of_row _ _ _ _ _ h⟩, ⟨by rw [cell_of_row _ _ 3 _ _ _ h]; rfl, frozen_of_row _ _ _ _ _ h⟩, ⟨by rw [cell_of_row _ _ 4 _ _ _ h]; rfl, frozen_of_row _ _ _ _ _ h⟩, ⟨by rw [cell_of_row _ _ 5 _ _ _ h]; rfl, frozen_of_row _ _ _ _ _ h⟩, ⟨by rw [cell_of_row _ _ 6 _ _ _ h]; rfl, frozen_of_row _ _ _ _ _ h⟩, ⟨by rw [cell_of_row _ _ 7 _ _ _ h]; rfl, frozen_of_row _ _ _ _ _ h⟩, ⟨by rw [cell_of_row _ _ 8 _ _ _ h]; rfl, frozen_of_row _ _ _ _ _ h⟩, ⟨by rw [cell_of_row _ _ 9 _ _ _ h]; rfl, frozen_of_row _ _ _ _ _ h⟩⟩)
  have KQD := KQ.out _ (Below.refl _ _).drew
  clear K5 HHI
  have NR : Hid (b4 ≠ rb) := Lib.hid (by have := NE.out; omega)
  have KST : Hid (∀ w6 : World, w6.cell? ⟨rb, 7, none⟩ = some (.int .u8 (fm : Int)) → ∀ v0 v1 v2 v3 v4 v5 v6 v7 v8 v9, (((((((((((w6.setCell ⟨b4, 0, none⟩ v0).setCell ⟨b4, 1, none⟩ v1).setCell ⟨b4, 2, none⟩ v2).setCell ⟨b4, 3, none⟩ v3).setCell ⟨b4, 4, none⟩ v4).setCell ⟨b4, 5, none⟩ v5).setCell ⟨b4, 6, none⟩ v6).setCell ⟨b4, 7, none⟩ v7).setCell ⟨b4, 8, none⟩ v8).setCell ⟨b4, 9, none⟩ v9)).cell? ⟨rb, 7, none⟩ = some (.int .u8 (fm : Int))) := Lib.hid (fun w6 hx v0 v1 v2 v3 v4 v5 v6 v7 v8 v9 => by
    have hne : ∀ j k, (⟨b4, j, none⟩ : Addr) ≠ ⟨rb, k, none⟩ := fun j k e => NR.out (congrArg Addr.block e)
    rw [World.cell?_setCell_other (h := hne _ _), World.cell?_setCell_other (h := hne _ _), World.cell?_setCell_other (h := hne _ _), World.cell?_setCell_other (h := hne _ _), World.cell?_setCell_other (h := hne _ _), World.cell?_setCell_other (h := hne _ _), World.cell?_setCell_other (h := hne _ _), World.cell?_setCell_other (h := hne _ _), World.cell?_setCell_other (h := hne _ _), World.cell?_setCell_other (h := hne _ _)]
    exact hx)
  go_region_held3 (fun wx => wx.cell? ⟨rb, 7, none⟩ = some (.int .u8 (fm : Int)))
    (first | with_reducible assumption | with_reducible exact KQD.1 | with_reducible exact KST.out _ (by assumption) _ _ _ _ _ _ _ _ _ _)
    (first
      | (go_simp; go_at_call 73; refine (HHJ.out _ (by first | exact (Below.refl _ _).drew | assumption)).mono ?_; rintro e' w6 ⟨rfl, rfl⟩)
      | (go_simp; go_at_call 71; refine (HRG.out _ _ (by first | exact (Below.refl _ _).drew | assumption)).mono ?_; rintro e' w6 ⟨rfl, b6, h7, x4, ⟨c0, f0⟩, ⟨c1, f1⟩, ⟨c2, f2⟩, ⟨c3, f3⟩, ⟨c4, f4⟩, ⟨c5, f5⟩, ⟨c6, f6⟩, ⟨c7, f7⟩, ⟨c8, f8⟩, ⟨c9, f9⟩⟩))
  rw [HV.out, ten_stores x4]
  have X6 := Lib.hid x4
  clear x4 c0 f0 c1 f1 c2 f2 c3 f3 c4 f4 c5 f5 c6 f6 c7 f7 c8 f8 c9 f9 h7
  go_wp2_with fail
  refine bodyPost_ret_by (results_cell_row Tryz.results41 _ _ b4 52 #[.int .i64 1, .int .i64 ((fm / 8 % 8 + hi : Nat) : Int), .int .i64 8, .int .i64 0, .int .i64 0, .int .i64 0, .int .i64 0, .int .i64 0, .bool false, .bool false] (0, 0) _ rfl (setRow_heap _ _ _ _ _ _ X6.out) Tryz.underlying52 rfl (by kernel_rfl)) (by rfl) ?_
  exact ⟨rfl, below_setRow (B5.out.trans (b6.mono B5.out.size)) NE.out.2.2.2.1 _⟩
set_option maxRecDepth 100000 in
set_option maxHeartbeats 16000000 in
theorem operand_dir (rb : Nat) (d : DS) (bs : List Nat) (w : World) (h : DAt w rb d bs) (he : d.ext < 256) (h8 : d.ext / 8 % 2 = 1) (hf : d.form < 256) (h3 : d.form / 64 = 3) :
    Calls Tryz.prog 41 #[.pointer (some ⟨rb, 0, none⟩), .agg #[.int .u8 2, .int .u8 0]] w fun e w' => e = .returned (regV (d.form % 8 + (if d.ext / 1 % 2 = 1 then 8 else 0)) 8) ∧ Below w.heap.size w w' := by
  obtain ⟨hi, hhi⟩ : ∃ hi, (if d.ext / 1 % 2 = 1 then 8 else 0 : Nat) = hi := ⟨_, rfl⟩
  have hhl : hi ≤ 8 := by rw [← hhi]; split <;> omega
  have HHI : Hid (∀ wx, Below w.heap.size w wx → Calls Tryz.prog 73 #[.pointer (some ⟨rb, 0, none⟩), .int .u8 1] wx fun e w' => e = .returned (.int .i64 (hi : Int)) ∧ wx = w') := Lib.hid (fun wx hb => by rw [← hhi]; exact high_any rb d bs wx 1 (h.below hb) he (by decide))
  have a8 : bits .and .u8 (d.ext : Int) 8 = 8 := by have := andB8 ⟨d.ext, he⟩; rw [h8] at this; exact this
  have K5 : Hid (∀ wx, Below w.heap.size w wx → wx.cell? ⟨rb, 5, none⟩ = some (.int .u8 (d.ext : Int)) ∧ wx.cell? ⟨rb, 7, none⟩ = some (.int .u8 (d.form : Int))) := Lib.hid (fun wx hb => by
    have h2 := h.below hb
    exact ⟨by rw [cell_of_row _ _ 5 _ _ _ h2.box]; rfl, by rw [cell_of_row _ _ 7 _ _ _ h2.box]; rfl⟩)
  have hlt := h.lt
  rw [hhi]
  obtain ⟨k5, k7⟩ := K5.out w (Below.refl _ _)
  unfold regV
  obtain ⟨ex, hex⟩ : ∃ ex, d.ext = ex := ⟨_, rfl⟩
  obtain ⟨fm, hfm⟩ : ∃ fm, d.form = fm := ⟨_, rfl⟩
  rw [hex] at K5 k5 a8
  rw [hfm] at K5 k7 hf ⊢ h3
  have tq : (((fm : Int) / 64) == 3) = true := by simp; omega
  have HV : Hid (IntKind.i64.wrap (IntKind.i64.wrap (bits .and .u8 (fm : Int) 7) + (hi : Int)) = ((fm % 8 + hi : Nat) : Int)) := Lib.hid (regval2 fm hi hf hhl)
  clear h hex hfm h8 he hhi
  have XN := Lib.hid (three_new w #[.int .u8 2, .int .u8 0] #[.int .i64 0, .int .i64 0, .int .i64 0, .int .i64 0, .int .i64 0, .int .i64 0, .int .i64 0, .int .i64 0, .bool false, .bool false] #[.int .i64 4] 102 52 3)
  have BN : Hid (Below w.heap.size w (((w.alloc (.cells #[.int .u8 2, .int .u8 0] 102)).alloc (.cells #[.int .i64 0, .int .i64 0, .int .i64 0, .int .i64 0, .int .i64 0, .int .i64 0, .int .i64 0, .int .i64 0, .bool false, .bool false] 52)).alloc (.cells #[.int .i64 4] 3))) := Lib.hid (by go_grown)
  go_enter Tryz.func41, Tryz.ntmps41
  go_upto_region 4 with fail
  obtain ⟨b3, hb3⟩ : ∃ b, w.heap.size = b := ⟨_, rfl⟩
  obtain ⟨b4, hb4⟩ : ∃ b, w.heap.size + 1 = b := ⟨_, rfl⟩
  obtain ⟨b5, hb5⟩ : ∃ b, w.heap.size + 2 = b := ⟨_, rfl⟩
  have hb6 : w.heap.size + 1 + 1 = b5 := hb5
  generalize ((w.alloc (.cells #[.int .u8 2, .int .u8 0] 102)).alloc (.cells #[.int .i64 0, .int .i64 0, .int .i64 0, .int .i64 0, .int .i64 0, .int .i64 0, .int .i64 0, .int .i64 0, .bool false, .bool false] 52)).alloc (.cells #[.int .i64 4] 3) = w4 at *
  rw [hb5, hb4, hb3] at XN
  try rw [hb6]
  try rw [hb4]
  try rw [hb3]
  have NE : Hid (b3 ≠ b5 ∧ b4 ≠ b5 ∧ rb ≠ b5 ∧ w.heap.size ≤ b4 ∧ w.heap.size ≤ b5) := Lib.hid (by omega)
  have k5' : w4.cell? ⟨rb, 5, none⟩ = some (.int .u8 (ex : Int)) := (K5.out _ BN.out).1
  have z5 : w4.cell? ⟨b5, 0, none⟩ = some (.int .i64 4) := by rw [cell_of_row _ _ 0 _ _ _ XN.out.2.2]; rfl
  have y5 : w4.frozen? ⟨b5, 0, none⟩ = false := frozen_of_row _ _ _ _ _ XN.out.2.2
  clear hb6
  go_upto_region 6 with fail
  have X5 : Hid ((w4.setCell ⟨b5, 0, none⟩ (.int .i64 8)).heap[b5]? = some (.cells #[.int .i64 8] 3)) := Lib.hid (block_set XN.out.2.2)
  have hn5 := (Near.refl b5 w4).set 0 (.int .i64 8)
  have X4 : Hid ((w4.setCell ⟨b5, 0, none⟩ (.int .i64 8)).heap[b4]? = some (.cells #[.int .i64 0, .int .i64 0, .int .i64 0, .int .i64 0, .int .i64 0, .int .i64 0, .int .i64 0, .int .i64 0, .bool false, .bool false] 52)) := Lib.hid ((hn5.block (lt_of_block XN.out.2.1) NE.out.2.1).trans XN.out.2.1)
  have X3 : Hid ((w4.setCell ⟨b5, 0, none⟩ (.int .i64 8)).heap[b3]? = some (.cells #[.int .u8 2, .int .u8 0] 102)) := Lib.hid ((hn5.block (lt_of_block XN.out.1) NE.out.1).trans XN.out.1)
  have B5 : Hid (Below w.heap.size w (w4.setCell ⟨b5, 0, none⟩ (.int .i64 8))) := Lib.hid (BN.out.setCell NE.out.2.2.2.2 _)
  clear k5' z5 y5 hn5
  generalize w4.setCell ⟨b5, 0, none⟩ (.int .i64 8) = w5 at *
  have p0 : w5.cell? ⟨b3, 0, none⟩ = some (.int .u8 2) := by rw [cell_of_row _ _ 0 _ _ _ X3.out]; rfl
  have q7 := (K5.out _ B5.out).2
  go_upto_region 28 with fail
  clear p0
  have KQ : Hid (∀ wx, Below w5.heap.size w5 wx → wx.cell? ⟨rb, 7, none⟩ = some (.int .u8 (fm : Int)) ∧ wx.cell? ⟨b5, 0, none⟩ = some (.int .i64 8)) := Lib.hid (fun wx hb => ⟨(K5.out _ (B5.out.trans (hb.mono B5.out.size))).2, by rw [cell_of_row _ _ 0 _ _ _ ((hb.block _ (lt_of_block X5.out)).trans X5.out)]; rfl⟩)
  have HHJ : Hid (∀ wx, Below w5.heap.size w5 wx → Calls Tryz.prog 73 #[.pointer (some ⟨rb, 0, none⟩), .int .u8 1] wx fun e w' => e = .returned (.int .i64 (hi : Int)) ∧ wx = w') := Lib.hid (fun wx hb => HHI.out wx (B5.out.trans (hb.mono B5.out.size)))
  have HRG : Hid (∀ n wx, Below w5.heap.size w5 wx → Calls Tryz.prog 71 #[.int .i64 n, .pointer (some ⟨b5, 0, none⟩)] wx fun e w' => e = .returned (.agg #[.int .i64 1, .int .i64 n, .int .i64 8, .int .i64 0, .int .i64 0, .int .i64 0, .int .i64 0, .int .i64 0, .bool false, .bool false]) ∧ Below w5.heap.size w5 w' ∧ w'.cell? ⟨rb, 7, none⟩ = some (.int .u8 (fm : Int)) ∧ w'.heap[b4]? = some (.cells #[.int .i64 0, .int .i64 0, .int .i64 0, .int .i64 0, .int .i64 0, .int .i64 0, .int .i64 0, .int .i64 0, .bool false, .bool false] 52) ∧ (w'.cell? ⟨b4, 0, none⟩ = some (.int .i64 0) ∧ w'.frozen? ⟨b4, 0, none⟩ = false) ∧ (w'.cell? ⟨b4, 1, none⟩ = some (.int .i64 0) ∧ w'.frozen? ⟨b4, 1, none⟩ = false) ∧ (w'.cell? ⟨b4, 2, none⟩ = some (.int .i64 0) ∧ w'.frozen? ⟨b4, 2, none⟩ = false) ∧ (w'.cell? ⟨b4, 3, none⟩ = some (.int .i64 0) ∧ w'.frozen? ⟨b4, 3, none⟩ = false) ∧ (w'.cell? ⟨b4, 4, none⟩ = some (.int .i64 0) ∧ w'.frozen? ⟨b4, 4, none⟩ = false) ∧ (w'.cell? ⟨b4, 5, none⟩ = some (.int .i64 0) ∧ w'.frozen? ⟨b4, 5, none⟩ = false) ∧ (w'.cell? ⟨b4, 6, none⟩ = some (.int .i64 0) ∧ w'.frozen? ⟨b4, 6, none⟩ = false) ∧ (w'.cell? ⟨b4, 7, none⟩ = some (.int .i64 0) ∧ w'.frozen? ⟨b4, 7, none⟩ = false) ∧ (w'.cell? ⟨b4, 8, none⟩ = some (.bool false) ∧ w'.frozen? ⟨b4, 8, none⟩ = false) ∧ (w'.cell? ⟨b4, 9, none⟩ = some (.bool false) ∧ w'.frozen? ⟨b4, 9, none⟩ = false)) := Lib.hid (fun n wx hb => (register_any b5 n 8 wx (KQ.out wx hb).2 (by have := lt_of_block X5.out; have := hb.size; omega)).mono fun e w' hh => by
    have hB := bstep hb hh.2
    have h := (hB.block _ (lt_of_block X4.out)).trans X4.out
    exact ⟨hh.1, hB, (KQ.out _ hB).1, h, ⟨by rw [cell_of_row _ _ 0 _ _ _ h]; rfl, frozen_of_row _ _ _ _ _ h⟩, ⟨by rw [cell_of_row _ _ 1 _ _ _ h]; rfl, frozen_of_row _ _ _ _ _ h⟩, ⟨by rw [cell_of_row _ _ 2 _ _ _ h]; rfl, frozen_of_row _ _ _ _ _ h⟩, ⟨by rw [cell_of_row _ _ 3 _ _ _ h]; rfl, frozen_of_row _ _ _ _ _ h⟩, ⟨by rw [cell_of_row _ _ 4 _ _ _ h]; rfl, frozen_of_row _ _ _ _ _ h⟩, ⟨by rw [cell_of_row _ _ 5 _ _ _ h]; rfl, frozen_of_row _ _ _ _ _ h⟩, ⟨by rw [cell_of_row _ _ 6 _ _ _ h]; rfl, frozen_of_row _ _ _ _ _ h⟩, ⟨by rw [cell_of_row _ _ 7 _ _ _ h]; rfl, frozen_of_row _ _ _ _ _ h⟩, ⟨by rw [cell_of_row _ _ 8 _ _ _ h]; rfl, frozen_of_row _ _ _ _ _ h⟩, ⟨by rw [cell_of_row _ _ 9 _ _ _ h]; rfl, frozen_of_row _ _ _ _ _ h⟩⟩)
  have KQD := KQ.out _ (Below.refl _ _).drew
  clear K5 HHI
  have NR : Hid (b4 ≠ rb) := Lib.hid (by have := NE.out; omega)
  have KST : Hid (∀ w6 : World, w6.cell? ⟨rb, 7, none⟩ = some (.int .u8 (fm : Int)) → ∀ v0 v1 v2 v3 v4 v5 v6 v7 v8 v9, (((((((((((w6.setCell ⟨b4, 0, none⟩ v0).setCell ⟨b4, 1, none⟩ v1).setCell ⟨b4, 2, none⟩ v2).setCell ⟨b4, 3, none⟩ v3).setCell ⟨b4, 4, none⟩ v4).setCell ⟨b4, 5, none⟩ v5).setCell ⟨b4, 6, none⟩ v6).setCell ⟨b4, 7, none⟩ v7).setCell ⟨b4, 8, none⟩ v8).setCell ⟨b4, 9, none⟩ v9)).cell? ⟨rb, 7, none⟩ = some (.int .u8 (fm : Int))) := Lib.hid (fun w6 hx v0 v1 v2 v3 v4 v5 v6 v7 v8 v9 => by
    have hne : ∀ j k, (⟨b4, j, none⟩ : Addr) ≠ ⟨rb, k, none⟩ := fun j k e => NR.out (congrArg Addr.block e)
    rw [World.cell?_setCell_other (h := hne _ _), World.cell?_setCell_other (h := hne _ _), World.cell?_setCell_other (h := hne _ _), World.cell?_setCell_other (h := hne _ _), World.cell?_setCell_other (h := hne _ _), World.cell?_setCell_other (h := hne _ _), World.cell?_setCell_other (h := hne _ _), World.cell?_setCell_other (h := hne _ _), World.cell?_setCell_other (h := hne _ _), World.cell?_setCell_other (h := hne _ _)]
    exact hx)
  go_region_held3 (fun wx => wx.cell? ⟨rb, 7, none⟩ = some (.int .u8 (fm : Int)))
    (first | with_reducible assumption | with_reducible exact KQD.1 | with_reducible exact KST.out _ (by assumption) _ _ _ _ _ _ _ _ _ _)
    (first
      | (go_simp; go_at_call 73; refine (HHJ.out _ (by first | exact (Below.refl _ _).drew | assumption)).mono ?_; rintro e' w6 ⟨rfl, rfl⟩)
      | (go_simp; go_at_call 71; refine (HRG.out _ _ (by first | exact (Below.refl _ _).drew | assumption)).mono ?_; rintro e' w6 ⟨rfl, b6, h7, x4, ⟨c0, f0⟩, ⟨c1, f1⟩, ⟨c2, f2⟩, ⟨c3, f3⟩, ⟨c4, f4⟩, ⟨c5, f5⟩, ⟨c6, f6⟩, ⟨c7, f7⟩, ⟨c8, f8⟩, ⟨c9, f9⟩⟩))
  rw [HV.out, ten_stores x4]
  have X6 := Lib.hid x4
  clear x4 c0 f0 c1 f1 c2 f2 c3 f3 c4 f4 c5 f5 c6 f6 c7 f7 c8 f8 c9 f9 h7
  go_wp2_with fail
  refine bodyPost_ret_by (results_cell_row Tryz.results41 _ _ b4 52 #[.int .i64 1, .int .i64 ((fm % 8 + hi : Nat) : Int), .int .i64 8, .int .i64 0, .int .i64 0, .int .i64 0, .int .i64 0, .int .i64 0, .bool false, .bool false] (0, 0) _ rfl (setRow_heap _ _ _ _ _ _ X6.out) Tryz.underlying52 rfl (by kernel_rfl)) (by rfl) ?_
  exact ⟨rfl, below_setRow (B5.out.trans (b6.mono B5.out.size)) NE.out.2.2.2.1 _⟩
set_option maxRecDepth 100000 in
set_option maxHeartbeats 16000000 in
theorem operand_zero8 (rb : Nat) (d : DS) (bs : List Nat) (w : World) (h : DAt w rb d bs) (he : d.ext < 256) (h8 : d.ext / 8 % 2 = 1) :
    Calls Tryz.prog 41 #[.pointer (some ⟨rb, 0, none⟩), .agg #[.int .u8 0, .int .u8 0]] w fun e w' => e = .returned opndZ ∧ Below w.heap.size w w' := by
  have a8 : bits .and .u8 (d.ext : Int) 8 = 8 := by have := andB8 ⟨d.ext, he⟩; rw [h8] at this; exact this
  have K5 : Hid (∀ wx, Below w.heap.size w wx → wx.cell? ⟨rb, 5, none⟩ = some (.int .u8 (d.ext : Int))) := Lib.hid (fun wx hb => by
    have h2 := h.below hb
    rw [cell_of_row _ _ 5 _ _ _ h2.box]; rfl)
  have hlt := h.lt
  unfold opndZ
  obtain ⟨ex, hex⟩ : ∃ ex, d.ext = ex := ⟨_, rfl⟩
  rw [hex] at K5 a8
  clear h hex h8 he
  have XN := Lib.hid (three_new w #[.int .u8 0, .int .u8 0] #[.int .i64 0, .int .i64 0, .int .i64 0, .int .i64 0, .int .i64 0, .int .i64 0, .int .i64 0, .int .i64 0, .bool false, .bool false] #[.int .i64 4] 102 52 3)
  have BN : Hid (Below w.heap.size w (((w.alloc (.cells #[.int .u8 0, .int .u8 0] 102)).alloc (.cells #[.int .i64 0, .int .i64 0, .int .i64 0, .int .i64 0, .int .i64 0, .int .i64 0, .int .i64 0, .int .i64 0, .bool false, .bool false] 52)).alloc (.cells #[.int .i64 4] 3))) := Lib.hid (by go_grown)
  go_enter Tryz.func41, Tryz.ntmps41
  go_upto_region 4 with fail
  obtain ⟨b3, hb3⟩ : ∃ b, w.heap.size = b := ⟨_, rfl⟩
  obtain ⟨b4, hb4⟩ : ∃ b, w.heap.size + 1 = b := ⟨_, rfl⟩
  obtain ⟨b5, hb5⟩ : ∃ b, w.heap.size + 2 = b := ⟨_, rfl⟩
  have hb6 : w.heap.size + 1 + 1 = b5 := hb5
  generalize ((w.alloc (.cells #[.int .u8 0, .int .u8 0] 102)).alloc (.cells #[.int .i64 0, .int .i64 0, .int .i64 0, .int .i64 0, .int .i64 0, .int .i64 0, .int .i64 0, .int .i64 0, .bool false, .bool false] 52)).alloc (.cells #[.int .i64 4] 3) = w4 at *
  rw [hb5, hb4, hb3] at XN
  try rw [hb6]
  try rw [hb4]
  try rw [hb3]
  have NE : Hid (b3 ≠ b5 ∧ b4 ≠ b5 ∧ rb ≠ b5 ∧ w.heap.size ≤ b4 ∧ w.heap.size ≤ b5) := Lib.hid (by omega)
  have k5' : w4.cell? ⟨rb, 5, none⟩ = some (.int .u8 (ex : Int)) := K5.out _ BN.out
  have z5 : w4.cell? ⟨b5, 0, none⟩ = some (.int .i64 4) := by rw [cell_of_row _ _ 0 _ _ _ XN.out.2.2]; rfl
  have y5 : w4.frozen? ⟨b5, 0, none⟩ = false := frozen_of_row _ _ _ _ _ XN.out.2.2
  clear hb6
  go_upto_region 6 with fail
  have X5 : Hid ((w4.setCell ⟨b5, 0, none⟩ (.int .i64 8)).heap[b5]? = some (.cells #[.int .i64 8] 3)) := Lib.hid (block_set XN.out.2.2)
  have hn5 := (Near.refl b5 w4).set 0 (.int .i64 8)
  have X4 : Hid ((w4.setCell ⟨b5, 0, none⟩ (.int .i64 8)).heap[b4]? = some (.cells #[.int .i64 0, .int .i64 0, .int .i64 0, .int .i64 0, .int .i64 0, .int .i64 0, .int .i64 0, .int .i64 0, .bool false, .bool false] 52)) := Lib.hid ((hn5.block (lt_of_block XN.out.2.1) NE.out.2.1).trans XN.out.2.1)
  have X3 : Hid ((w4.setCell ⟨b5, 0, none⟩ (.int .i64 8)).heap[b3]? = some (.cells #[.int .u8 0, .int .u8 0] 102)) := Lib.hid ((hn5.block (lt_of_block XN.out.1) NE.out.1).trans XN.out.1)
  have B5 : Hid (Below w.heap.size w (w4.setCell ⟨b5, 0, none⟩ (.int .i64 8))) := Lib.hid (BN.out.setCell NE.out.2.2.2.2 _)
  clear k5' z5 y5 hn5
  generalize w4.setCell ⟨b5, 0, none⟩ (.int .i64 8) = w5 at *
  have p0 : w5.cell? ⟨b3, 0, none⟩ = some (.int .u8 0) := by rw [cell_of_row _ _ 0 _ _ _ X3.out]; rfl
  have c0 : w5.cell? ⟨b4, 0, none⟩ = some (.int .i64 0) := by rw [cell_of_row _ _ 0 _ _ _ X4.out]; rfl
  have f0 : w5.frozen? ⟨b4, 0, none⟩ = false := frozen_of_row _ _ _ _ _ X4.out
  have c1 : w5.cell? ⟨b4, 1, none⟩ = some (.int .i64 0) := by rw [cell_of_row _ _ 1 _ _ _ X4.out]; rfl
  have f1 : w5.frozen? ⟨b4, 1, none⟩ = false := frozen_of_row _ _ _ _ _ X4.out
  have c2 : w5.cell? ⟨b4, 2, none⟩ = some (.int .i64 0) := by rw [cell_of_row _ _ 2 _ _ _ X4.out]; rfl
  have f2 : w5.frozen? ⟨b4, 2, none⟩ = false := frozen_of_row _ _ _ _ _ X4.out
  have c3 : w5.cell? ⟨b4, 3, none⟩ = some (.int .i64 0) := by rw [cell_of_row _ _ 3 _ _ _ X4.out]; rfl
  have f3 : w5.frozen? ⟨b4, 3, none⟩ = false := frozen_of_row _ _ _ _ _ X4.out
  have c4 : w5.cell? ⟨b4, 4, none⟩ = some (.int .i64 0) := by rw [cell_of_row _ _ 4 _ _ _ X4.out]; rfl
  have f4 : w5.frozen? ⟨b4, 4, none⟩ = false := frozen_of_row _ _ _ _ _ X4.out
  have c5 : w5.cell? ⟨b4, 5, none⟩ = some (.int .i64 0) := by rw [cell_of_row _ _ 5 _ _ _ X4.out]; rfl
  have f5 : w5.frozen? ⟨b4, 5, none⟩ = false := frozen_of_row _ _ _ _ _ X4.out
  have c6 : w5.cell? ⟨b4, 6, none⟩ = some (.int .i64 0) := by rw [cell_of_row _ _ 6 _ _ _ X4.out]; rfl
  have f6 : w5.frozen? ⟨b4, 6, none⟩ = false := frozen_of_row _ _ _ _ _ X4.out
  have c7 : w5.cell? ⟨b4, 7, none⟩ = some (.int .i64 0) := by rw [cell_of_row _ _ 7 _ _ _ X4.out]; rfl
  have f7 : w5.frozen? ⟨b4, 7, none⟩ = false := frozen_of_row _ _ _ _ _ X4.out
  have c8 : w5.cell? ⟨b4, 8, none⟩ = some (.bool false) := by rw [cell_of_row _ _ 8 _ _ _ X4.out]; rfl
  have f8 : w5.frozen? ⟨b4, 8, none⟩ = false := frozen_of_row _ _ _ _ _ X4.out
  have c9 : w5.cell? ⟨b4, 9, none⟩ = some (.bool false) := by rw [cell_of_row _ _ 9 _ _ _ X4.out]; rfl
  have f9 : w5.frozen? ⟨b4, 9, none⟩ = false := frozen_of_row _ _ _ _ _ X4.out
  go_wp2_with fail
  rw [ten_stores X4.out]
  refine bodyPost_ret_by (results_cell_row Tryz.results41 _ _ b4 52 #[.int .i64 0, .int .i64 0, .int .i64 0, .int .i64 0, .int .i64 0, .int .i64 0, .int .i64 0, .int .i64 0, .bool false, .bool false] (0, 0) _ rfl (setRow_heap _ _ _ _ _ _ X4.out) Tryz.underlying52 rfl (by kernel_rfl)) (by rfl) ?_
  exact ⟨rfl, below_setRow B5.out NE.out.2.2.2.1 _⟩
set_option maxRecDepth 100000 in
set_option maxHeartbeats 16000000 in
theorem operand_zero (rb : Nat) (d : DS) (bs : List Nat) (w : World) (h : DAt w rb d bs) (he : d.ext < 256) (h8 : d.ext / 8 % 2 = 0) :
    Calls Tryz.prog 41 #[.pointer (some ⟨rb, 0, none⟩), .agg #[.int .u8 0, .int .u8 0]] w fun e w' => e = .returned opndZ ∧ Below w.heap.size w w' := by
  have a8 : bits .and .u8 (d.ext : Int) 8 = 0 := by have := andB8 ⟨d.ext, he⟩; rw [h8] at this; exact this
  have K5 : Hid (∀ wx, Below w.heap.size w wx → wx.cell? ⟨rb, 5, none⟩ = some (.int .u8 (d.ext : Int))) := Lib.hid (fun wx hb => by
    have h2 := h.below hb
    rw [cell_of_row _ _ 5 _ _ _ h2.box]; rfl)
  have hlt := h.lt
  unfold opndZ
  obtain ⟨ex, hex⟩ : ∃ ex, d.ext = ex := ⟨_, rfl⟩
  rw [hex] at K5 a8
  clear h hex h8 he
  have XN := Lib.hid (three_new w #[.int .u8 0, .int .u8 0] #[.int .i64 0, .int .i64 0, .int .i64 0, .int .i64 0, .int .i64 0, .int .i64 0, .int .i64 0, .int .i64 0, .bool false, .bool false] #[.int .i64 4] 102 52 3)
  have BN : Hid (Below w.heap.size w (((w.alloc (.cells #[.int .u8 0, .int .u8 0] 102)).alloc (.cells #[.int .i64 0, .int .i64 0, .int .i64 0, .int .i64 0, .int .i64 0, .int .i64 0, .int .i64 0, .int .i64 0, .bool false, .bool false] 52)).alloc (.cells #[.int .i64 4] 3))) := Lib.hid (by go_grown)
  go_enter Tryz.func41, Tryz.ntmps41
  go_upto_region 4 with fail
  obtain ⟨b3, hb3⟩ : ∃ b, w.heap.size = b := ⟨_, rfl⟩
  obtain ⟨b4, hb4⟩ : ∃ b, w.heap.size + 1 = b := ⟨_, rfl⟩
  obtain ⟨b5, hb5⟩ : ∃ b, w.heap.size + 2 = b := ⟨_, rfl⟩
  have hb6 : w.heap.size + 1 + 1 = b5 := hb5
  generalize ((w.alloc (.cells #[.int .u8 0, .int .u8 0] 102)).alloc (.cells #[.int .i64 0, .int .i64 0, .int .i64 0, .int .i64 0, .int .i64 0, .int .i64 0, .int .i64 0, .int .i64 0, .bool false, .bool false] 52)).alloc (.cells #[.int .i64 4] 3) = w4 at *
  rw [hb5, hb4, hb3] at XN
  try rw [hb6]
  try rw [hb4]
  try rw [hb3]
  have NE : Hid (b3 ≠ b5 ∧ b4 ≠ b5 ∧ rb ≠ b5 ∧ w.heap.size ≤ b4 ∧ w.heap.size ≤ b5) := Lib.hid (by omega)
  have k5' : w4.cell? ⟨rb, 5, none⟩ = some (.int .u8 (ex : Int)) := K5.out _ BN.out
  have z5 : w4.cell? ⟨b5, 0, none⟩ = some (.int .i64 4) := by rw [cell_of_row _ _ 0 _ _ _ XN.out.2.2]; rfl
  have y5 : w4.frozen? ⟨b5, 0, none⟩ = false := frozen_of_row _ _ _ _ _ XN.out.2.2
  clear hb6
  have X4 : Hid (w4.heap[b4]? = some (.cells #[.int .i64 0, .int .i64 0, .int .i64 0, .int .i64 0, .int .i64 0, .int .i64 0, .int .i64 0, .int .i64 0, .bool false, .bool false] 52)) := Lib.hid XN.out.2.1
  have X3 : Hid (w4.heap[b3]? = some (.cells #[.int .u8 0, .int .u8 0] 102)) := Lib.hid XN.out.1
  have B5 := BN
  go_upto_region 6 with fail
  clear k5' z5 y5
  generalize w4 = w5 at *
  have p0 : w5.cell? ⟨b3, 0, none⟩ = some (.int .u8 0) := by rw [cell_of_row _ _ 0 _ _ _ X3.out]; rfl
  have c0 : w5.cell? ⟨b4, 0, none⟩ = some (.int .i64 0) := by rw [cell_of_row _ _ 0 _ _ _ X4.out]; rfl
  have f0 : w5.frozen? ⟨b4, 0, none⟩ = false := frozen_of_row _ _ _ _ _ X4.out
  have c1 : w5.cell? ⟨b4, 1, none⟩ = some (.int .i64 0) := by rw [cell_of_row _ _ 1 _ _ _ X4.out]; rfl
  have f1 : w5.frozen? ⟨b4, 1, none⟩ = false := frozen_of_row _ _ _ _ _ X4.out
  have c2 : w5.cell? ⟨b4, 2, none⟩ = some (.int .i64 0) := by rw [cell_of_row _ _ 2 _ _ _ X4.out]; rfl
  have f2 : w5.frozen? ⟨b4, 2, none⟩ = false := frozen_of_row _ _ _ _ _ X4.out
  have c3 : w5.cell? ⟨b4, 3, none⟩ = some (.int .i64 0) := by rw [cell_of_row _ _ 3 _ _ _ X4.out]; rfl
  have f3 : w5.frozen? ⟨b4, 3, none⟩ = false := frozen_of_row _ _ _ _ _ X4.out
  have c4 : w5.cell? ⟨b4, 4, none⟩ = some (.int .i64 0) := by rw [cell_of_row _ _ 4 _ _ _ X4.out]; rfl
  have f4 : w5.frozen? ⟨b4, 4, none⟩ = false := frozen_of_row _ _ _ _ _ X4.out
  have c5 : w5.cell? ⟨b4, 5, none⟩ = some (.int .i64 0) := by rw [cell_of_row _ _ 5 _ _ _ X4.out]; rfl
  have f5 : w5.frozen? ⟨b4, 5, none⟩ = false := frozen_of_row _ _ _ _ _ X4.out
  have c6 : w5.cell? ⟨b4, 6, none⟩ = some (.int .i64 0) := by rw [cell_of_row _ _ 6 _ _ _ X4.out]; rfl
  have f6 : w5.frozen? ⟨b4, 6, none⟩ = false := frozen_of_row _ _ _ _ _ X4.out
  have c7 : w5.cell? ⟨b4, 7, none⟩ = some (.int .i64 0) := by rw [cell_of_row _ _ 7 _ _ _ X4.out]; rfl
  have f7 : w5.frozen? ⟨b4, 7, none⟩ = false := frozen_of_row _ _ _ _ _ X4.out
  have c8 : w5.cell? ⟨b4, 8, none⟩ = some (.bool false) := by rw [cell_of_row _ _ 8 _ _ _ X4.out]; rfl
  have f8 : w5.frozen? ⟨b4, 8, none⟩ = false := frozen_of_row _ _ _ _ _ X4.out
  have c9 : w5.cell? ⟨b4, 9, none⟩ = some (.bool false) := by rw [cell_of_row _ _ 9 _ _ _ X4.out]; rfl
  have f9 : w5.frozen? ⟨b4, 9, none⟩ = false := frozen_of_row _ _ _ _ _ X4.out
  go_wp2_with fail
  rw [ten_stores X4.out]
  refine bodyPost_ret_by (results_cell_row Tryz.results41 _ _ b4 52 #[.int .i64 0, .int .i64 0, .int .i64 0, .int .i64 0, .int .i64 0, .int .i64 0, .int .i64 0, .int .i64 0, .bool false, .bool false] (0, 0) _ rfl (setRow_heap _ _ _ _ _ _ X4.out) Tryz.underlying52 rfl (by kernel_rfl)) (by rfl) ?_
  exact ⟨rfl, below_setRow B5.out NE.out.2.2.2.1 _⟩
end Go.Proofs.YtmnjkaimpejohaaGreatDoor
