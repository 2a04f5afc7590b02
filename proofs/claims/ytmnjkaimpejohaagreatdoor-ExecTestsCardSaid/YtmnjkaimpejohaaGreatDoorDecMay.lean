/- Layer 12: does a form byte follow; may it tell what it tells, behind an extension. -/
import Derived.Test.YtmnjkaimpejohaaGreatDoorDecHas
import Derived.Test.YtmnjkaimpejohaaGreatDoorDecNext
import Derived.Test.YtmnjkaimpejohaaGreatDoorTk
namespace Go.Proofs.YtmnjkaimpejohaaGreatDoor
open Go.RowKit
set_option linter.unusedVariables false
set_option linter.unusedSimpArgs false

theorem lit_own (w : World) (C : Array Value) (T : TypeId) (ks : List Nat) (cs : Array Value) (hcs : cs = ((toI ks).map (Value.int .u8)).toArray) (h : ks.length ≤ 1048576) : OwnI ((w.alloc (.cells C T)).alloc (.cells cs 5)) 0 5 .u8 (.slice (some ⟨w.heap.size + 1, 0, none⟩) ks.length ks.length) (toI ks) := by
  have := OwnI.lit (w.alloc (.cells C T)) 0 5 .u8 (toI ks) cs hcs (Nat.zero_le _) (by rw [toI_length]; unfold maxLen; omega)
  rw [toI_length, World.size_alloc] at this
  exact this
set_option maxRecDepth 100000 in
set_option maxHeartbeats 8000000 in
theorem formed_any (r : DRow) (w : World) : Calls Tryz.prog 69 #[r.v] w fun e w' => e = .returned (.bool r.formed) ∧ Below w.heap.size w w' := by
  have hfo : ([1, 2, 3].any fun k => r.hasKind k) = r.formed := by simp [DRow.formed, Bool.or_assoc]
  obtain ⟨CS, hCS⟩ : ∃ CS : Array Value, CS = #[.int .u8 (r.op : Int), .int .u8 (r.cond : Int), .int .u8 (r.a.1 : Int), .int .u8 (r.a.2 : Int), .int .u8 (r.b.1 : Int), .int .u8 (r.b.2 : Int), .int .u8 (r.c.1 : Int), .int .u8 (r.c.2 : Int)] := ⟨_, rfl⟩
  have HH : Hid (Calls Tryz.prog 90 #[.agg #[.int .u8 (r.op : Int), .int .u8 (r.cond : Int), .int .u8 (r.a.1 : Int), .int .u8 (r.a.2 : Int), .int .u8 (r.b.1 : Int), .int .u8 (r.b.2 : Int), .int .u8 (r.c.1 : Int), .int .u8 (r.c.2 : Int)], .slice (some ⟨w.heap.size + 1, 0, none⟩) 3 3] ((w.alloc (.cells #[.int .u8 (r.op : Int), .int .u8 (r.cond : Int), .int .u8 (r.a.1 : Int), .int .u8 (r.a.2 : Int), .int .u8 (r.b.1 : Int), .int .u8 (r.b.2 : Int), .int .u8 (r.c.1 : Int), .int .u8 (r.c.2 : Int)] 104)).alloc (.cells #[.int .u8 1, .int .u8 2, .int .u8 3] 5)) fun e w' => e = .returned (.bool r.formed) ∧ Below w.heap.size w w') := Lib.hid (by
    have := has_any r (some ⟨w.heap.size + 1, 0, none⟩) 3 3 [1, 2, 3] _ (lit_own w CS 104 [1, 2, 3] #[.int .u8 1, .int .u8 2, .int .u8 3] rfl (by decide)) rfl (by decide)
    rw [hfo] at this
    subst hCS
    refine this.mono fun e w' h => ⟨h.1, Below.trans (b := (w.alloc (.cells #[.int .u8 (r.op : Int), .int .u8 (r.cond : Int), .int .u8 (r.a.1 : Int), .int .u8 (r.a.2 : Int), .int .u8 (r.b.1 : Int), .int .u8 (r.b.2 : Int), .int .u8 (r.c.1 : Int), .int .u8 (r.c.2 : Int)] 104)).alloc (.cells #[.int .u8 1, .int .u8 2, .int .u8 3] 5)) (by go_grown) (h.2.mono (by simp; omega))⟩)
  unfold DRow.v
  clear hfo hCS
  generalize r.formed = R at *
  go_enter Tryz.func69, Tryz.ntmps69
  go_wp2_with fail
  refine HH.out.mono ?_
  rintro e w1 ⟨rfl, b1⟩
  go_wp2_with fail
  go_ret
  exact ⟨rfl, b1⟩
set_option maxRecDepth 100000 in
set_option maxHeartbeats 8000000 in
/-- behind an extension every register is one -/
theorem isRegister_xt (rb : Nat) (d : DS) (bs : List Nat) (low : Int) (p1 p2 : Int) (w : World) (h : DAt w rb d bs) (hx : d.xt = true) :
    Calls Tryz.prog 68 #[.pointer (some ⟨rb, 0, none⟩), .int .u8 low, .agg #[.int .u8 p1, .int .u8 p2]] w fun e w' => e = .returned (.bool true) ∧ Below w.heap.size w w' := by
  have k4 : w.cell? ⟨rb, 4, none⟩ = some (.bool true) := by rw [cell_of_row _ _ 4 _ _ _ h.box, ← hx]; rfl
  have hlt := h.lt
  clear h hx
  go_enter Tryz.func68, Tryz.ntmps68
  go_wp2_with fail
  go_ret
  exact ⟨rfl, by go_grown⟩
theorem DAt.near_new {w w' : World} {rb : Nat} {d : DS} {bs : List Nat} (h : DAt w rb d bs) (hb : Below w.heap.size w w') : DAt w' rb d bs := h.below hb
set_option maxRecDepth 100000 in
set_option maxHeartbeats 8000000 in
/-- behind an extension: a register in the middle bits may be there -/
theorem may_reg (rb : Nat) (d : DS) (bs : List Nat) (kd wd : Nat) (w : World) (h : DAt w rb d bs) (hx : d.xt = true) (hk : kd = 1 ∨ (kd = 2 ∧ d.form / 64 = 3)) (hf : d.form < 256) :
    Calls Tryz.prog 70 #[.pointer (some ⟨rb, 0, none⟩), .agg #[.int .u8 (kd : Int), .int .u8 (wd : Int)]] w fun e w' => e = .returned (.bool true) ∧ Below w.heap.size w w' := by
  have k7 : w.cell? ⟨rb, 7, none⟩ = some (.int .u8 (d.form : Int)) := by rw [cell_of_row _ _ 7 _ _ _ h.box]; rfl
  have hlt := h.lt
  have HIS : Hid (∀ low wx, Below w.heap.size w wx → Calls Tryz.prog 68 #[.pointer (some ⟨rb, 0, none⟩), .int .u8 low, .agg #[.int .u8 (kd : Int), .int .u8 (wd : Int)]] wx fun e w' => e = .returned (.bool true) ∧ Below wx.heap.size wx w') := Lib.hid (fun low wx hb => isRegister_xt rb d bs low kd wd wx (h.below hb) hx)
  have B1 : Hid (Below w.heap.size w (w.alloc (.cells #[.int .u8 (kd : Int), .int .u8 (wd : Int)] 102))) := Lib.hid (by go_grown)
  have X1 : Hid ((w.alloc (.cells #[.int .u8 (kd : Int), .int .u8 (wd : Int)] 102)).heap[w.heap.size]? = some (.cells #[.int .u8 (kd : Int), .int .u8 (wd : Int)] 102)) := Lib.hid (heap_alloc_new _ _)
  obtain ⟨form, hform⟩ : ∃ f, d.form = f := ⟨_, rfl⟩
  rw [hform] at k7 hk hf
  have K7 : Hid (∀ wx, Below w.heap.size w wx → wx.cell? ⟨rb, 7, none⟩ = some (.int .u8 (form : Int))) := Lib.hid (fun wx hb => (hb.cell (p := ⟨rb, 7, none⟩) hlt).trans k7)
  clear h hx hform k7
  rcases hk with rfl | ⟨rfl, h3⟩
  ·
    go_enter Tryz.func70, Tryz.ntmps70
    go_upto_region 3 with fail
    generalize w.alloc (.cells #[.int .u8 ((1 : Nat) : Int), .int .u8 (wd : Int)] 102) = w1 at *
    have KQ : Hid (∀ wx, Below w1.heap.size w1 wx → Below w1.heap.size w1 wx ∧ wx.cell? ⟨rb, 7, none⟩ = some (.int .u8 (form : Int)) ∧ wx.cell? ⟨w.heap.size, 0, none⟩ = some (.int .u8 1) ∧ wx.cell? ⟨w.heap.size, 1, none⟩ = some (.int .u8 (wd : Int))) := Lib.hid (fun wx hb => by
      have h := (hb.block _ (lt_of_block X1.out)).trans X1.out
      exact ⟨hb, K7.out _ (bstep B1.out hb), by rw [cell_of_row _ _ 0 _ _ _ h]; rfl, by rw [cell_of_row _ _ 1 _ _ _ h]; rfl⟩)
    have HI1 : Hid (∀ low wx, Below w1.heap.size w1 wx → Calls Tryz.prog 68 #[.pointer (some ⟨rb, 0, none⟩), .int .u8 low, .agg #[.int .u8 1, .int .u8 (wd : Int)]] wx fun e w' => e = .returned (.bool true) ∧ Below wx.heap.size wx w') := Lib.hid (fun low wx hb => HIS.out low wx (bstep B1.out hb))
    clear HIS K7 X1 hlt
    go_region_held3 (fun wx => Below w1.heap.size w1 wx ∧ wx.cell? ⟨rb, 7, none⟩ = some (.int .u8 (form : Int)) ∧ wx.cell? ⟨w.heap.size, 0, none⟩ = some (.int .u8 1) ∧ wx.cell? ⟨w.heap.size, 1, none⟩ = some (.int .u8 (wd : Int)))
      (first | assumption | exact KQ.out _ (Below.refl _ _).drew | exact KQ.out _ (bstep (Below.refl _ _).drew (by assumption)))
      (first | (go_simp; go_at_call 68; refine (HI1.out _ _ (by first | exact (Below.refl _ _).drew | assumption)).mono ?_; rintro e' w5 ⟨rfl, b5⟩))
    go_wp2_with fail
    go_ret
    exact ⟨rfl, bstep B1.out (bstep (Below.refl _ _).drew b5)⟩
  ·
    go_enter Tryz.func70, Tryz.ntmps70
    go_upto_region 5 with fail
    generalize w.alloc (.cells #[.int .u8 ((2 : Nat) : Int), .int .u8 (wd : Int)] 102) = w1 at *
    have KQ : Hid (∀ wx, Below w1.heap.size w1 wx → Below w1.heap.size w1 wx ∧ wx.cell? ⟨rb, 7, none⟩ = some (.int .u8 (form : Int)) ∧ wx.cell? ⟨w.heap.size, 0, none⟩ = some (.int .u8 2) ∧ wx.cell? ⟨w.heap.size, 1, none⟩ = some (.int .u8 (wd : Int))) := Lib.hid (fun wx hb => by
      have h := (hb.block _ (lt_of_block X1.out)).trans X1.out
      exact ⟨hb, K7.out _ (bstep B1.out hb), by rw [cell_of_row _ _ 0 _ _ _ h]; rfl, by rw [cell_of_row _ _ 1 _ _ _ h]; rfl⟩)
    have HI1 : Hid (∀ low wx, Below w1.heap.size w1 wx → Calls Tryz.prog 68 #[.pointer (some ⟨rb, 0, none⟩), .int .u8 low, .agg #[.int .u8 2, .int .u8 (wd : Int)]] wx fun e w' => e = .returned (.bool true) ∧ Below wx.heap.size wx w') := Lib.hid (fun low wx hb => HIS.out low wx (bstep B1.out hb))
    have tq : (((form : Int) / 64) != 3) = false := by simp; omega
    clear HIS K7 X1 hlt
    go_region_held3 (fun wx => Below w1.heap.size w1 wx ∧ wx.cell? ⟨rb, 7, none⟩ = some (.int .u8 (form : Int)) ∧ wx.cell? ⟨w.heap.size, 0, none⟩ = some (.int .u8 2) ∧ wx.cell? ⟨w.heap.size, 1, none⟩ = some (.int .u8 (wd : Int)))
      (first | assumption | exact KQ.out _ (Below.refl _ _).drew | exact KQ.out _ (bstep (Below.refl _ _).drew (by assumption)))
      (first | (go_simp; go_at_call 68; refine (HI1.out _ _ (by first | exact (Below.refl _ _).drew | assumption)).mono ?_; rintro e' w5 ⟨rfl, b5⟩))
    go_wp2_with fail
    go_ret
    exact ⟨rfl, bstep B1.out (bstep (Below.refl _ _).drew b5)⟩
theorem may_zero (rb : Nat) (wd : Int) (w : World) :
    Calls Tryz.prog 70 #[.pointer (some ⟨rb, 0, none⟩), .agg #[.int .u8 0, .int .u8 wd]] w fun e w' => e = .returned (.bool true) ∧ Below w.heap.size w w' := by
  go_enter Tryz.func70, Tryz.ntmps70
  go_wp2_with fail
  go_ret
  exact ⟨rfl, by go_grown⟩
end Go.Proofs.YtmnjkaimpejohaaGreatDoor
