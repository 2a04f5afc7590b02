/- Layer 12: the next byte, and what may stand ahead of an opcode. -/
import Derived.Test.YtmnjkaimpejohaaGreatDoorDecSrc
namespace Go.Proofs.YtmnjkaimpejohaaGreatDoor
open Go.RowKit
set_option linter.unusedVariables false
set_option linter.unusedSimpArgs false

theorem DAt.set {w : World} {rb : Nat} {d d' : DS} {bs : List Nat} (h : DAt w rb d bs) {j : Nat} {v : Value} (hC : d.cells.setIfInBounds j v = d'.cells) (h1 : d'.ad = d.ad) (h2 : d'.n = d.n) (h3 : d'.c = d.c) : DAt (w.setCell ⟨rb, j, none⟩ v) rb d' bs where
  box := by rw [block_set h.box, hC]
  row := by rw [h1, h2, h3]; exact h.row.near h.box (by decide) ((Near.refl _ _).set _ _)
  byte := h.byte
  len := h.len.trans h2.symm
  big := by rw [h2]; exact h.big
theorem DAt.near {w w' : World} {rb : Nat} {d : DS} {bs : List Nat} (h : DAt w rb d bs) {bo : Nat} {C : Array Value} {T : TypeId} (hb : w.heap[bo]? = some (.cells C T)) (hne : bo ≠ rb) (ht : 5 ≠ T) (hn : Near bo w w') : DAt w' rb d bs :=
  ⟨(hn.block h.lt hne.symm).trans h.box, h.row.near hb ht hn, h.byte, h.len, h.big⟩
set_option maxRecDepth 100000 in
theorem next_ok (rb : Nat) (d : DS) (bs : List Nat) (w : World) (h : DAt w rb d bs) (hk : d.pos < d.n) :
    Calls Tryz.prog 64 #[.pointer (some ⟨rb, 0, none⟩)] w fun e w' => e = .returned (.int .u8 ((bs.getD d.pos 0 : Nat) : Int)) ∧ DAt w' rb { d with pos := d.pos + 1 } bs ∧ Near rb w w' ∧ w'.heap.size = w.heap.size := by
  have HP := Lib.hid (peek_ok rb d bs w h hk)
  have H := Lib.hid h
  have hw := h.big
  have e1 : IntKind.i64.wrap ((d.pos : Int) + 1) = ((d.pos + 1 : Nat) : Int) := by rw [IntKind.wrap_i64]; omega
  have HS : Hid (∀ wx, DAt wx rb d bs → DAt (wx.setCell ⟨rb, 1, none⟩ (.int .i64 ((d.pos + 1 : Nat) : Int))) rb { d with pos := d.pos + 1 } bs) := Lib.hid (fun wx hx => hx.set rfl rfl rfl rfl)
  obtain ⟨d', hd'⟩ : ∃ d', ({ d with pos := d.pos + 1 } : DS) = d' := ⟨_, rfl⟩
  rw [hd'] at HS ⊢
  clear hd'
  have HC : Hid (∀ wx, DAt wx rb d bs → wx.cell? ⟨rb, 1, none⟩ = some (.int .i64 (d.pos : Int)) ∧ wx.frozen? ⟨rb, 1, none⟩ = false) := Lib.hid (fun wx hx => ⟨by rw [cell_of_row _ _ 1 _ _ _ hx.box]; rfl, frozen_of_row _ _ _ _ _ hx.box⟩)
  obtain ⟨p1, hp1⟩ : ∃ p1, d.pos + 1 = p1 := ⟨_, rfl⟩
  rw [hp1] at e1 HS
  clear h hp1
  go_enter Tryz.func64, Tryz.ntmps64
  go_wp2_with fail
  refine HP.out.mono ?_
  rintro e w1 ⟨rfl, b1, z1⟩
  have H1 := Lib.hid (H.out.below b1)
  obtain ⟨k1, f1⟩ := HC.out _ H1.out
  go_wp2_with fail
  go_ret
  exact ⟨rfl, HS.out _ H1.out, (Near.of b1 H.out.lt).set _ _, by simpa using z1⟩
theorem and240 : ∀ c : Fin 256, bits .and .u8 (c.val : Int) 240 = ((c.val / 16 * 16 : Nat) : Int) := by decide +kernel
theorem not240 : ∀ c : Fin 256, bits .andNot .u8 (c.val : Int) 240 = ((c.val % 16 : Nat) : Int) := by decide +kernel
set_option maxRecDepth 100000 in
/-- an extension ahead of the opcode -/
theorem prefix_ext (rb : Nat) (d : DS) (bs : List Nat) (w : World) (h : DAt w rb d bs) (hk : d.pos < d.n) (c : Nat) (hc : bs.getD d.pos 0 = c) (hl : c / 16 = 4) :
    Calls Tryz.prog 39 #[.pointer (some ⟨rb, 0, none⟩)] w fun e w' => e = .returned (.tuple #[]) ∧ DAt w' rb { d with pos := d.pos + 1, xt := true, ext := c % 16 } bs ∧ Near rb w w' ∧ w'.heap.size = w.heap.size := by
  have hc2 : c < 256 := by omega
  have HP := Lib.hid (peek_ok rb d bs w h hk)
  have HP2 : Hid (∀ wx, DAt wx rb d bs → Calls Tryz.prog 63 #[.pointer (some ⟨rb, 0, none⟩)] wx fun e w' => e = .returned (.int .u8 (c : Int)) ∧ Below wx.heap.size wx w' ∧ w'.heap.size = wx.heap.size) := Lib.hid (fun wx hx => by rw [← hc]; exact peek_ok rb d bs wx hx hk)
  obtain ⟨d1, hd1⟩ : ∃ d', ({ d with xt := true } : DS) = d' := ⟨_, rfl⟩
  obtain ⟨d2, hd2⟩ : ∃ d', ({ d with xt := true, ext := c % 16 } : DS) = d' := ⟨_, rfl⟩
  have HS1 : Hid (∀ wx, DAt wx rb d bs → DAt (wx.setCell ⟨rb, 4, none⟩ (.bool true)) rb d1 bs) := Lib.hid (fun wx hx => by rw [← hd1]; exact hx.set rfl rfl rfl rfl)
  have HS2 : Hid (∀ wx, DAt wx rb d1 bs → DAt (wx.setCell ⟨rb, 5, none⟩ (.int .u8 ((c % 16 : Nat) : Int))) rb d2 bs) := Lib.hid (fun wx hx => by rw [← hd1] at hx; rw [← hd2]; exact hx.set rfl rfl rfl rfl)
  have HN : Hid (∀ wx, DAt wx rb d2 bs → Calls Tryz.prog 64 #[.pointer (some ⟨rb, 0, none⟩)] wx fun e w' => (∃ v, e = .returned v) ∧ DAt w' rb { d with pos := d.pos + 1, xt := true, ext := c % 16 } bs ∧ Near rb wx w' ∧ w'.heap.size = wx.heap.size) := Lib.hid (fun wx hx => by
    rw [← hd2] at hx
    exact (next_ok rb _ bs wx hx hk).mono fun e w' hh => ⟨⟨_, hh.1⟩, hh.2⟩)
  have HC : Hid (∀ wx, DAt wx rb d bs → (wx.cell? ⟨rb, 4, none⟩ = some (.bool d.xt) ∧ wx.frozen? ⟨rb, 4, none⟩ = false) ∧ wx.cell? ⟨rb, 5, none⟩ = some (.int .u8 (d.ext : Int)) ∧ wx.frozen? ⟨rb, 5, none⟩ = false) := Lib.hid (fun wx hx => ⟨⟨by rw [cell_of_row _ _ 4 _ _ _ hx.box]; rfl, frozen_of_row _ _ _ _ _ hx.box⟩, by rw [cell_of_row _ _ 5 _ _ _ hx.box]; rfl, frozen_of_row _ _ _ _ _ hx.box⟩)
  have H := Lib.hid h
  obtain ⟨D3, hD3⟩ : ∃ D, ({ d with pos := d.pos + 1, xt := true, ext := c % 16 } : DS) = D := ⟨_, rfl⟩
  rw [hD3] at HN ⊢
  have a1 : bits .and .u8 (c : Int) 240 = 64 := by have := and240 ⟨c, hc2⟩; simp only at this; rw [this]; omega
  have a2 : bits .andNot .u8 (c : Int) 240 = ((c % 16 : Nat) : Int) := not240 ⟨c, hc2⟩
  have t1 : ((c : Int) == 100) = false := by rw [beq_eq_false_iff_ne]; omega
  clear h hd1 hd2 hD3 HP hc
  obtain ⟨cm, hcm⟩ : ∃ cm, c % 16 = cm := ⟨_, rfl⟩
  rw [hcm] at a2 HS2
  clear hcm hl
  go_enter Tryz.func39, Tryz.ntmps39
  go_wp2_with fail
  refine (HP2.out w H.out).mono ?_
  rintro e w1 ⟨rfl, b1, z1⟩
  have H1 := Lib.hid (H.out.below b1)
  go_wp2_with fail
  refine (HP2.out w1 H1.out).mono ?_
  rintro e w2 ⟨rfl, b2, z2⟩
  have H2 := Lib.hid (H1.out.below b2)
  obtain ⟨⟨k4, f4⟩, k5, f5⟩ := HC.out _ H2.out
  go_wp2_with fail
  have H3 := Lib.hid (HS2.out _ (HS1.out _ H2.out))
  refine (HN.out _ H3.out).mono ?_
  rintro e w4 ⟨⟨v, rfl⟩, H4, n4, z4⟩
  go_wp2_with fail
  go_end0
  have hlt := H.out.lt
  have n2 : Near rb w w2 := (Near.of b1 hlt).trans (Near.of b2 (by omega))
  exact ⟨rfl, H4, ((n2.set _ _).set _ _).trans n4, by simp at z4; omega⟩
set_option maxRecDepth 100000 in
/-- nothing ahead of the opcode -/
theorem prefix_none (rb : Nat) (d : DS) (bs : List Nat) (w : World) (h : DAt w rb d bs) (hk : d.pos < d.n) (c : Nat) (hc : bs.getD d.pos 0 = c) (hc2 : c < 256) (hl : ¬ c / 16 = 4) (h100 : ¬ c = 100) :
    Calls Tryz.prog 39 #[.pointer (some ⟨rb, 0, none⟩)] w fun e w' => e = .returned (.tuple #[]) ∧ DAt w' rb d bs ∧ Near rb w w' ∧ w'.heap.size = w.heap.size := by
  have HP2 : Hid (∀ wx, DAt wx rb d bs → Calls Tryz.prog 63 #[.pointer (some ⟨rb, 0, none⟩)] wx fun e w' => e = .returned (.int .u8 (c : Int)) ∧ Below wx.heap.size wx w' ∧ w'.heap.size = wx.heap.size) := Lib.hid (fun wx hx => by rw [← hc]; exact peek_ok rb d bs wx hx hk)
  have H := Lib.hid h
  have a1 : bits .and .u8 (c : Int) 240 = ((c / 16 * 16 : Nat) : Int) := and240 ⟨c, hc2⟩
  have t1 : ((c : Int) == 100) = false := by rw [beq_eq_false_iff_ne]; omega
  obtain ⟨cm, hcm⟩ : ∃ cm, c / 16 * 16 = cm := ⟨_, rfl⟩
  have t2 : ((cm : Int) == 64) = false := by rw [beq_eq_false_iff_ne]; omega
  rw [hcm] at a1
  clear h hc hcm hl h100
  go_enter Tryz.func39, Tryz.ntmps39
  go_wp2_with fail
  refine (HP2.out w H.out).mono ?_
  rintro e w1 ⟨rfl, b1, z1⟩
  have H1 := Lib.hid (H.out.below b1)
  go_wp2_with fail
  refine (HP2.out w1 H1.out).mono ?_
  rintro e w2 ⟨rfl, b2, z2⟩
  have H2 := Lib.hid (H1.out.below b2)
  go_wp2_with fail
  go_end0
  have hlt := H.out.lt
  exact ⟨rfl, H2.out, (Near.of b1 hlt).trans (Near.of b2 (by omega)), by omega⟩
end Go.Proofs.YtmnjkaimpejohaaGreatDoor
