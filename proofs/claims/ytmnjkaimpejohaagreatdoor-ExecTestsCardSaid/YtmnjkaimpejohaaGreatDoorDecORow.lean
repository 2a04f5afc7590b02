/- Layer 12: the row that the bytes of an instruction begin with. -/
import Derived.Test.YtmnjkaimpejohaaGreatDoorDecMay
namespace Go.Proofs.YtmnjkaimpejohaaGreatDoor
open Go.RowKit
set_option linter.unusedVariables false
set_option linter.unusedSimpArgs false

theorem and7 : ∀ c : Fin 256, bits .and .u8 (c.val : Int) 7 = ((c.val % 8 : Nat) : Int) := by decide +kernel
/-- where the reading of a row stands: the bytes, the answer's box, the opcode's box -/
structure OSt (w0 w : World) (rb : Nat) (d : DS) (bs : List Nat) (b2 b4 : Nat) (Z OC : Array Value) : Prop where
  dat : DAt w rb d bs
  near : Near rb w0 w
  z : w.heap[b2]? = some (.cells Z 104)
  oc : w.heap[b4]? = some (.cells OC 139)
  lo : rb < w0.heap.size
  n2 : w0.heap.size ≤ b2
  n4 : w0.heap.size ≤ b4
  ne : b2 ≠ b4
theorem OSt.step {w0 w w' : World} {rb : Nat} {d d' : DS} {bs : List Nat} {b2 b4 : Nat} {Z OC : Array Value} (h : OSt w0 w rb d bs b2 b4 Z OC) (hd : DAt w' rb d' bs) (hn : Near rb w w') : OSt w0 w' rb d' bs b2 b4 Z OC :=
  ⟨hd, h.near.trans hn, (hn.block (lt_of_block h.z) (by have := h.lo; have := h.n2; omega)).trans h.z, (hn.block (lt_of_block h.oc) (by have := h.lo; have := h.n4; omega)).trans h.oc, h.lo, h.n2, h.n4, h.ne⟩
theorem OSt.below {w0 w w' : World} {rb : Nat} {d : DS} {bs : List Nat} {b2 b4 : Nat} {Z OC : Array Value} (h : OSt w0 w rb d bs b2 b4 Z OC) (hb : Below w.heap.size w w') : OSt w0 w' rb d bs b2 b4 Z OC :=
  h.step (h.dat.below hb) (Near.of hb h.dat.lt)
theorem OSt.cells {w0 w : World} {rb : Nat} {d : DS} {bs : List Nat} {b2 b4 : Nat} {Z OC : Array Value} (h : OSt w0 w rb d bs b2 b4 Z OC) : (∀ j, w.cell? ⟨rb, j, none⟩ = d.cells[j]?) ∧ (∀ j, w.frozen? ⟨rb, j, none⟩ = false) ∧ (∀ j, w.cell? ⟨b4, j, none⟩ = OC[j]?) ∧ ∀ j, w.frozen? ⟨b4, j, none⟩ = false :=
  ⟨fun j => cell_of_row _ _ j _ _ _ h.dat.box, fun j => frozen_of_row _ _ _ _ _ h.dat.box, fun j => cell_of_row _ _ j _ _ _ h.oc, fun j => frozen_of_row _ _ _ _ _ h.oc⟩
theorem Near.setNew {bo g : Nat} {a b : World} (h : Near bo a b) (hg : a.heap.size ≤ g) (hb : bo < a.heap.size) (cs : Array Value) : Near bo a (b.setRow g cs) :=
  ⟨below_setRow h.below (by omega) _, fun k h1 h2 => (setRow_other _ _ _ _ (by omega)).trans (h.rest k h1 h2)⟩
theorem four_storesD {w : World} {b : Nat} {T : TypeId} {u0 u1 u2 u3 : Value} (E : w.heap[b]? = some (.cells #[u0, u1, u2, u3] T)) (v0 v1 v2 v3 : Value) :
    ((((w.setCell ⟨b, 0, none⟩ v0).setCell ⟨b, 1, none⟩ v1).setCell ⟨b, 2, none⟩ v2).setCell ⟨b, 3, none⟩ v3) = w.setRow b #[v0, v1, v2, v3] := by
  have step : ∀ (cs : Array Value) (i : Nat) (v : Value), (w.setRow b cs).setCell ⟨b, i, none⟩ v = w.setRow b (cs.setIfInBounds i v) := fun cs i v => by
    rw [setCell_eq_setRow _ _ _ _ _ _ _ (setRow_heap w b _ cs T (0, 0) E), setRow_setRow]
  rw [setCell_eq_setRow w b 0 _ _ _ _ E, step, step, step]
  simp only [List.setIfInBounds_toArray, List.set_cons_zero, List.set_cons_succ]
/-- another value of the opcode -/
theorem OSt.setOc {w0 w : World} {rb : Nat} {d : DS} {bs : List Nat} {b2 b4 : Nat} {Z OC : Array Value} (h : OSt w0 w rb d bs b2 b4 Z OC) (OC' : Array Value) : OSt w0 (w.setRow b4 OC') rb d bs b2 b4 Z OC' :=
  ⟨h.dat.near h.oc (by have := h.lo; have := h.n4; omega) (by decide) (near_row _ _ _), h.near.setNew h.n4 h.lo _, (setRow_other _ _ _ _ (by have := h.ne; omega)).trans h.z, setRow_heap _ _ _ _ _ _ h.oc, h.lo, h.n2, h.n4, h.ne⟩
set_option maxRecDepth 100000 in
set_option maxHeartbeats 32000000 in
theorem oprow_ok (rb : Nat) (d : DS) (bs : List Nat) (w : World) (h : DAt w rb d bs) (code digit : Nat) (g : Bool) (r : DRow) (hs : d.short = false) (hsg : d.seg = false) (hk : d.pos + 2 < d.n) (hc : bs.getD d.pos 0 = code) (hc2 : code < 256) (h15 : code ≠ 15)
    (hG : ∀ wx, Calls Tryz.prog 65 #[opV false code 0 d.ext] wx fun e w' => e = .returned (.bool g) ∧ Below wx.heap.size wx w')
    (hdig : digit = if g then bs.getD (d.pos + 1) 0 / 8 % 8 else 0)
    (hR : ∀ wx, Calls Tryz.prog 66 #[opV false code digit d.ext] wx fun e w' => e = .returned (.tuple #[r.v, .bool true]) ∧ Below wx.heap.size wx w')
    (h4 : r.a.1 ≠ 4) (hM : r.formed = true → d.xt = true ∧ (r.a.1 = 1 ∨ (r.a.1 = 2 ∧ bs.getD (d.pos + 1) 0 / 64 = 3)) ∧ (r.b.1 = 0 ∨ r.b.1 = 1 ∨ (r.b.1 = 2 ∧ bs.getD (d.pos + 1) 0 / 64 = 3))) :
    Calls Tryz.prog 40 #[.pointer (some ⟨rb, 0, none⟩)] w fun e w' => e = .returned (.tuple #[r.v, .nilIface]) ∧ DAt w' rb { d with pos := d.pos + (if r.formed then 2 else 1), code := code, form := if r.formed then bs.getD (d.pos + 1) 0 else d.form } bs ∧ Near rb w w' := by
  have H := Lib.hid h
  have hlt := h.lt
  obtain ⟨d1, hd1⟩ : ∃ d1, ({ d with pos := d.pos + 1 } : DS) = d1 := ⟨_, rfl⟩
  have HN : Hid (∀ wx, DAt wx rb d bs → Calls Tryz.prog 64 #[.pointer (some ⟨rb, 0, none⟩)] wx fun e w' => e = .returned (.int .u8 (code : Int)) ∧ DAt w' rb d1 bs ∧ Near rb wx w' ∧ w'.heap.size = wx.heap.size) := Lib.hid (fun wx hx => by rw [← hd1, ← hc]; exact next_ok rb d bs wx hx (by omega))
  have KQ : Hid (∀ wx, DAt wx rb d bs → wx.cell? ⟨rb, 5, none⟩ = some (.int .u8 (d.ext : Int))) := Lib.hid (fun wx hx => by rw [cell_of_row _ _ 5 _ _ _ hx.box]; rfl)
  have KQ1 : Hid (∀ wx, DAt wx rb d1 bs → wx.cell? ⟨rb, 5, none⟩ = some (.int .u8 (d.ext : Int))) := Lib.hid (fun wx hx => by rw [cell_of_row _ _ 5 _ _ _ hx.box, ← hd1]; rfl)
  have HX : Hid (bs.getD (d.pos + 1) 0 < 256) := Lib.hid (by
    have hl : d.pos + 1 < bs.length := by rw [h.len]; omega
    simp only [List.getD, List.getElem?_eq_getElem hl, Option.getD_some]
    exact h.byte _ (List.getElem_mem _))
  obtain ⟨x, hx⟩ : ∃ x, bs.getD (d.pos + 1) 0 = x := ⟨_, rfl⟩
  obtain ⟨d2, hd2⟩ : ∃ d2, ({ d1 with code := code } : DS) = d2 := ⟨_, rfl⟩
  have HS2 : Hid (∀ wx, DAt wx rb d1 bs → DAt (wx.setCell ⟨rb, 6, none⟩ (.int .u8 (code : Int))) rb d2 bs) := Lib.hid (fun wx hx => by rw [← hd2]; exact hx.set rfl rfl rfl rfl)
  have HP2 : Hid (∀ wx, DAt wx rb d2 bs → Calls Tryz.prog 63 #[.pointer (some ⟨rb, 0, none⟩)] wx fun e w' => e = .returned (.int .u8 (x : Int)) ∧ Below wx.heap.size wx w' ∧ w'.heap.size = wx.heap.size) := Lib.hid (fun wx hy => by rw [← hx, show bs.getD (d.pos + 1) 0 = bs.getD d2.pos 0 by rw [← hd2, ← hd1]]; exact peek_ok rb d2 bs wx hy (by rw [← hd2, ← hd1]; show d.pos + 1 < d.n; omega))
  obtain ⟨d3, hd3⟩ : ∃ d3, ({ d2 with pos := d.pos + 2 } : DS) = d3 := ⟨_, rfl⟩
  have HN3 : Hid (∀ wx, DAt wx rb d2 bs → Calls Tryz.prog 64 #[.pointer (some ⟨rb, 0, none⟩)] wx fun e w' => e = .returned (.int .u8 (x : Int)) ∧ DAt w' rb d3 bs ∧ Near rb wx w' ∧ w'.heap.size = wx.heap.size) := Lib.hid (fun wx hy => by
    have := next_ok rb d2 bs wx hy (by rw [← hd2, ← hd1]; show d.pos + 1 < d.n; omega)
    rw [show bs.getD d2.pos 0 = x by rw [← hx, ← hd2, ← hd1], show ({ d2 with pos := d2.pos + 1 } : DS) = d3 by rw [← hd3, ← hd2, ← hd1]] at this
    exact this)
  obtain ⟨d4, hd4⟩ : ∃ d4, ({ d3 with form := x } : DS) = d4 := ⟨_, rfl⟩
  have HS4 : Hid (∀ wx, DAt wx rb d3 bs → DAt (wx.setCell ⟨rb, 7, none⟩ (.int .u8 (x : Int))) rb d4 bs) := Lib.hid (fun wx hx => by rw [← hd4]; exact hx.set rfl rfl rfl rfl)
  have HFIN : Hid ((r.formed = true → d4 = { d with pos := d.pos + (if r.formed then 2 else 1), code := code, form := if r.formed then bs.getD (d.pos + 1) 0 else d.form }) ∧ (r.formed = false → d2 = { d with pos := d.pos + (if r.formed then 2 else 1), code := code, form := if r.formed then bs.getD (d.pos + 1) 0 else d.form })) := Lib.hid ⟨fun hf => by rw [hf, ← hd4, ← hd3, ← hd2, ← hd1, hx]; rfl, fun hf => by rw [hf, ← hd2, ← hd1]; rfl⟩
  have HDC : Hid ((d1.cells[6]? = some (.int .u8 (d.code : Int)) ∧ d2.cells[2]? = some (.bool false) ∧ d2.cells[3]? = some (.bool false)) ∧ d3.cells[7]? = some (.int .u8 (d.form : Int)) ∧ d4.cells[2]? = some (.bool false) ∧ d4.cells[3]? = some (.bool false)) := Lib.hid ⟨⟨by rw [← hd1]; rfl, by rw [← hd2, ← hd1, ← hs]; rfl, by rw [← hd2, ← hd1, ← hsg]; rfl⟩, by rw [← hd3, ← hd2, ← hd1]; rfl, by rw [← hd4, ← hd3, ← hd2, ← hd1, ← hs]; rfl, by rw [← hd4, ← hd3, ← hd2, ← hd1, ← hsg]; rfl⟩
  have HMY : Hid (∀ wx, r.formed = true → DAt wx rb d4 bs → Calls Tryz.prog 70 #[.pointer (some ⟨rb, 0, none⟩), .agg #[.int .u8 (r.a.1 : Int), .int .u8 (r.a.2 : Int)]] wx (fun e w' => e = .returned (.bool true) ∧ Below wx.heap.size wx w') ∧ Calls Tryz.prog 70 #[.pointer (some ⟨rb, 0, none⟩), .agg #[.int .u8 (r.b.1 : Int), .int .u8 (r.b.2 : Int)]] wx (fun e w' => e = .returned (.bool true) ∧ Below wx.heap.size wx w')) := Lib.hid (fun wx hf hy => by
    obtain ⟨m1, m2, m3⟩ := hM hf
    have e1 : d4.xt = true := by rw [← hd4, ← hd3, ← hd2, ← hd1]; exact m1
    have e2 : d4.form = x := by rw [← hd4]
    rw [hx] at m2 m3 HX
    refine ⟨may_reg rb d4 bs _ _ wx hy e1 (by rw [e2]; exact m2) (by rw [e2]; exact HX.out), ?_⟩
    rcases m3 with m3 | m3
    · rw [m3]; exact may_zero rb _ wx
    · exact may_reg rb d4 bs _ _ wx hy e1 (by rw [e2]; exact m3) (by rw [e2]; exact HX.out))
  have HFO := Lib.hid (formed_any r)
  have HGR := Lib.hid hG
  have HRW := Lib.hid hR
  have HA4 : Hid (((r.a.1 : Int) == 4) = false) := Lib.hid (by rw [beq_eq_false_iff_ne]; omega)
  have hrv : r.v = .agg #[.int .u8 (r.op : Int), .int .u8 (r.cond : Int), .int .u8 (r.a.1 : Int), .int .u8 (r.a.2 : Int), .int .u8 (r.b.1 : Int), .int .u8 (r.b.2 : Int), .int .u8 (r.c.1 : Int), .int .u8 (r.c.2 : Int)] := rfl
  rw [hrv] at HFO HRW ⊢
  have HIR : Hid ((Tryz.prog.info? 104).map (·.size) = some ((#[.int .u8 (r.op : Int), .int .u8 (r.cond : Int), .int .u8 (r.a.1 : Int), .int .u8 (r.a.2 : Int), .int .u8 (r.b.1 : Int), .int .u8 (r.b.2 : Int), .int .u8 (r.c.1 : Int), .int .u8 (r.c.2 : Int)] : Array Value).size)) := Lib.hid (by kernel_rfl)
  have t15 : ((code : Int) == 15) = false := by rw [beq_eq_false_iff_ne]; omega
  have HDG : Hid ((g = false → digit = 0) ∧ (g = true → digit = x / 8 % 8)) := Lib.hid ⟨fun e => by rw [hdig, e]; rfl, fun e => by rw [hdig, e, hx]; rfl⟩
  obtain ⟨dF, hdF⟩ : ∃ dF, ({ d with pos := d.pos + (if r.formed then 2 else 1), code := code, form := if r.formed then bs.getD (d.pos + 1) 0 else d.form } : DS) = dF := ⟨_, rfl⟩
  rw [hdF] at HFIN ⊢
  rw [hx] at HX
  clear hdF hrv hdig hR hM h4 hd4 hd3 hd2 hx hs hsg
  go_enter Tryz.func40, Tryz.ntmps40
  go_upto_region 1 with fail
  have B1 : Hid (Below w.heap.size w (w.alloc (.cells #[.int .u8 0, .int .u8 0, .int .u8 0, .int .u8 0, .int .u8 0, .int .u8 0, .int .u8 0, .int .u8 0] 104))) := Lib.hid (by go_grown)
  have X1 : Hid ((w.alloc (.cells #[.int .u8 0, .int .u8 0, .int .u8 0, .int .u8 0, .int .u8 0, .int .u8 0, .int .u8 0, .int .u8 0] 104)).heap[w.heap.size]? = some (.cells #[.int .u8 0, .int .u8 0, .int .u8 0, .int .u8 0, .int .u8 0, .int .u8 0, .int .u8 0, .int .u8 0] 104)) := Lib.hid (heap_alloc_new _ _)
  have Z1 : Hid ((w.alloc (.cells #[.int .u8 0, .int .u8 0, .int .u8 0, .int .u8 0, .int .u8 0, .int .u8 0, .int .u8 0, .int .u8 0] 104)).heap.size = w.heap.size + 1) := Lib.hid (by simp)
  generalize w.alloc (.cells #[.int .u8 0, .int .u8 0, .int .u8 0, .int .u8 0, .int .u8 0, .int .u8 0, .int .u8 0, .int .u8 0] 104) = w1 at *
  have H1 := Lib.hid (H.out.below B1.out)
  have KA := KQ.out _ H1.out
  have HB4 : Hid (∀ w5, Near rb (w1.drew.alloc (.cells #[.bool false, .int .u8 0, .int .u8 0, .int .u8 0] 139)) w5 → (w5.cell? ⟨w1.heap.size, 0, none⟩ = some (.bool false) ∧ w5.cell? ⟨w1.heap.size, 1, none⟩ = some (.int .u8 0) ∧ w5.cell? ⟨w1.heap.size, 2, none⟩ = some (.int .u8 0) ∧ w5.cell? ⟨w1.heap.size, 3, none⟩ = some (.int .u8 0)) ∧ w5.frozen? ⟨w1.heap.size, 0, none⟩ = false ∧ w5.frozen? ⟨w1.heap.size, 1, none⟩ = false ∧ w5.frozen? ⟨w1.heap.size, 2, none⟩ = false ∧ w5.frozen? ⟨w1.heap.size, 3, none⟩ = false) := Lib.hid (fun w5 hn => by
    have hl1 := H1.out.lt
    have h : w5.heap[w1.heap.size]? = some (.cells #[.bool false, .int .u8 0, .int .u8 0, .int .u8 0] 139) := (hn.block (by simp) (by omega)).trans (heap_alloc_new w1.drew _)
    exact ⟨⟨by rw [cell_of_row _ _ 0 _ _ _ h]; rfl, by rw [cell_of_row _ _ 1 _ _ _ h]; rfl, by rw [cell_of_row _ _ 2 _ _ _ h]; rfl, by rw [cell_of_row _ _ 3 _ _ _ h]; rfl⟩, frozen_of_row _ _ _ _ _ h, frozen_of_row _ _ _ _ _ h, frozen_of_row _ _ _ _ _ h, frozen_of_row _ _ _ _ _ h⟩)
  clear h hG hc
  have HNA : Hid (Calls Tryz.prog 64 #[.pointer (some ⟨rb, 0, none⟩)] (w1.drew.alloc (.cells #[.bool false, .int .u8 0, .int .u8 0, .int .u8 0] 139)) fun e w' => e = .returned (.int .u8 (code : Int)) ∧ (DAt w' rb d1 bs ∧ Near rb w1 w' ∧ w'.heap[w1.heap.size]? = some (.cells #[.bool false, .int .u8 0, .int .u8 0, .int .u8 0] 139)) ∧ (w'.cell? ⟨w1.heap.size, 0, none⟩ = some (.bool false) ∧ w'.cell? ⟨w1.heap.size, 1, none⟩ = some (.int .u8 0) ∧ w'.cell? ⟨w1.heap.size, 2, none⟩ = some (.int .u8 0) ∧ w'.cell? ⟨w1.heap.size, 3, none⟩ = some (.int .u8 0)) ∧ w'.frozen? ⟨w1.heap.size, 0, none⟩ = false ∧ w'.frozen? ⟨w1.heap.size, 1, none⟩ = false ∧ w'.frozen? ⟨w1.heap.size, 2, none⟩ = false ∧ w'.frozen? ⟨w1.heap.size, 3, none⟩ = false) := Lib.hid ((HN.out _ (H1.out.below ((Below.refl _ _).drew.alloc (Nat.le_refl _) _))).mono fun e w' h => by
    obtain ⟨h1, h2, h3, h4⟩ := h
    have hl1 := H1.out.lt
    have hh : w'.heap[w1.heap.size]? = some (.cells #[.bool false, .int .u8 0, .int .u8 0, .int .u8 0] 139) := (h3.block (by simp) (by omega)).trans (heap_alloc_new w1.drew _)
    exact ⟨h1, ⟨h2, (Near.of ((Below.refl _ _).drew.alloc (Nat.le_refl _) _) hl1).trans h3, hh⟩, (HB4.out _ h3).1, (HB4.out _ h3).2⟩)
  have HNB : Hid (Calls Tryz.prog 64 #[.pointer (some ⟨rb, 0, none⟩)] w1.drew fun e w' => e = .returned (.int .u8 (code : Int)) ∧ DAt w' rb d1 bs ∧ Near rb w1 w' ∧ w'.heap.size = w1.heap.size) := Lib.hid ((HN.out _ (H1.out.below (Below.refl _ _).drew)).mono fun e w' h => by
    obtain ⟨h1, h2, h3, h4⟩ := h
    exact ⟨h1, h2, (Near.of (Below.refl _ _).drew H1.out.lt).trans h3, h4⟩)
  have KD0 : Hid (w1.drew.cell? ⟨rb, 5, none⟩ = some (.int .u8 (d.ext : Int))) := Lib.hid (KQ.out _ (H1.out.below (Below.refl _ _).drew))
  have KD1 : Hid ((w1.drew.alloc (.cells #[.bool false, .int .u8 0, .int .u8 0, .int .u8 0] 139)).cell? ⟨rb, 5, none⟩ = some (.int .u8 (d.ext : Int))) := Lib.hid (KQ.out _ (H1.out.below ((Below.refl _ _).drew.alloc (Nat.le_refl _) _)))
  have KD2 : Hid ((w1.alloc (.cells #[.bool false, .int .u8 0, .int .u8 0, .int .u8 0] 139)).drew.cell? ⟨rb, 5, none⟩ = some (.int .u8 (d.ext : Int))) := Lib.hid KD1.out
  have KD3 : Hid ((w1.alloc (.cells #[.bool false, .int .u8 0, .int .u8 0, .int .u8 0] 139)).cell? ⟨rb, 5, none⟩ = some (.int .u8 (d.ext : Int))) := Lib.hid KD1.out
  have KSA : Hid (∀ w5 (cs : Array Value), DAt w5 rb d1 bs → (w5.alloc (.cells cs 139)).cell? ⟨rb, 5, none⟩ = some (.int .u8 (d.ext : Int))) := Lib.hid (fun w5 cs hx => KQ1.out _ (hx.below ((Below.refl _ _).alloc (Nat.le_refl _) _)))
  have KST : Hid (∀ w5, DAt w5 rb d1 bs → ((((w5.setCell ⟨w1.heap.size, 0, none⟩ (.bool false)).setCell ⟨w1.heap.size, 1, none⟩ (.int .u8 (code : Int))).setCell ⟨w1.heap.size, 2, none⟩ (.int .u8 0)).setCell ⟨w1.heap.size, 3, none⟩ (.int .u8 (d.ext : Int))).cell? ⟨rb, 5, none⟩ = some (.int .u8 (d.ext : Int))) := Lib.hid (fun w5 hx => by
    have hl1 := H1.out.lt
    have hne : ∀ j k, (⟨w1.heap.size, j, none⟩ : Addr) ≠ ⟨rb, k, none⟩ := fun j k e => by
      have := congrArg Addr.block e
      simp at this
      omega
    rw [World.cell?_setCell_other (h := hne _ _), World.cell?_setCell_other (h := hne _ _), World.cell?_setCell_other (h := hne _ _), World.cell?_setCell_other (h := hne _ _)]
    exact KQ1.out _ hx)
  clear HN HB4
  go_region_held3 (fun wx => wx.cell? ⟨rb, 5, none⟩ = some (.int .u8 (d.ext : Int)))
    (first | with_reducible assumption | with_reducible exact KST.out _ (by assumption) | with_reducible exact KD0.out | with_reducible exact KD1.out | with_reducible exact KD2.out | with_reducible exact KD3.out | with_reducible exact KQ1.out _ (by assumption) | exact KSA.out _ _ (by assumption))
    (first
      | (go_simp; go_at_call 64; refine HNA.out.mono ?_; rintro e' w5 ⟨rfl, ⟨H5, n5, X5⟩, ⟨c0, c1, c2, c3⟩, f0, f1, f2, f3⟩)
      | (go_simp; go_at_call 64; refine HNB.out.mono ?_; rintro e' w5 ⟨rfl, H5, n5, z5⟩))
  case' refine_2.refine_3.refine_3.refine_3.refine_3.refine_3.refine_3.refine_3.refine_1.refine_2.refine_3.refine_1.refine_2.refine_1.refine_2 =>
    have HO : Hid (OSt w (w5.alloc (.cells #[.bool false, .int .u8 (code : Int), .int .u8 0, .int .u8 (d.ext : Int)] 139)) rb d1 bs w.heap.size w1.heap.size #[.int .u8 0, .int .u8 0, .int .u8 0, .int .u8 0, .int .u8 0, .int .u8 0, .int .u8 0, .int .u8 0] #[.bool false, .int .u8 (code : Int), .int .u8 0, .int .u8 (d.ext : Int)]) := Lib.hid (by
      have e1 := Z1.out
      have hx : w5.heap[w.heap.size]? = some (.cells #[.int .u8 0, .int .u8 0, .int .u8 0, .int .u8 0, .int .u8 0, .int .u8 0, .int .u8 0, .int .u8 0] 104) := (n5.block (lt_of_block X1.out) (by omega)).trans X1.out
      refine ⟨H5.below ((Below.refl _ _).alloc (Nat.le_refl _) _), ((Near.of B1.out hlt).trans n5).trans (Near.of ((Below.refl _ _).alloc (Nat.le_refl _) _) H5.lt), (heap_alloc_old _ _ (lt_of_block hx)).trans hx, by rw [← z5]; exact heap_alloc_new _ _, hlt, Nat.le_refl _, by omega, by omega⟩)
    generalize w5.alloc (.cells #[.bool false, .int .u8 (code : Int), .int .u8 0, .int .u8 (d.ext : Int)] 139) = wz at *
  case' refine_2.refine_3.refine_3.refine_3.refine_3.refine_3.refine_3.refine_3.refine_2.refine_1.refine_2.refine_1.refine_2.refine_3.refine_1.refine_2 =>
    have HO : Hid (OSt w (w5.setRow w1.heap.size #[.bool false, .int .u8 (code : Int), .int .u8 0, .int .u8 (d.ext : Int)]) rb d1 bs w.heap.size w1.heap.size #[.int .u8 0, .int .u8 0, .int .u8 0, .int .u8 0, .int .u8 0, .int .u8 0, .int .u8 0, .int .u8 0] #[.bool false, .int .u8 (code : Int), .int .u8 0, .int .u8 (d.ext : Int)]) := Lib.hid (by
      have e1 := Z1.out
      have hx : w5.heap[w.heap.size]? = some (.cells #[.int .u8 0, .int .u8 0, .int .u8 0, .int .u8 0, .int .u8 0, .int .u8 0, .int .u8 0, .int .u8 0] 104) := (n5.block (lt_of_block X1.out) (by omega)).trans X1.out
      exact OSt.setOc (OC := #[.bool false, .int .u8 0, .int .u8 0, .int .u8 0]) ⟨H5, (Near.of B1.out hlt).trans n5, hx, X5, hlt, Nat.le_refl _, by omega, by omega⟩ _)
    rw [four_storesD X5]
    generalize w5.setRow w1.heap.size #[.bool false, .int .u8 (code : Int), .int .u8 0, .int .u8 (d.ext : Int)] = wz at *
  all_goals
    obtain ⟨b4, hb4⟩ : ∃ b4, w1.heap.size = b4 := ⟨_, rfl⟩
    rw [hb4] at HO ⊢
    have N1 : b4 ≠ rb := by have := HO.out.lo; have := HO.out.n4; omega
    have N2 : rb ≠ b4 := N1.symm
    clear hb4 HNA HNB KD0 KD1 KD2 KD3 KSA KST H5 n5 KA X1 Z1 B1 H1 KQ KQ1
    obtain ⟨cr, fr, co, fo⟩ := HO.out.cells
    have o1 : wz.cell? ⟨b4, 1, none⟩ = some (.int .u8 (code : Int)) := co 1
    have r6 : wz.cell? ⟨rb, 6, none⟩ = some (.int .u8 (d.code : Int)) := (cr 6).trans HDC.out.1.1
    have g6 := fr 6
    clear cr fr co fo
    go_upto_region 5 with fail
    have HO2 : Hid (OSt w (wz.setCell ⟨rb, 6, none⟩ (.int .u8 (code : Int))) rb d2 bs w.heap.size b4 #[.int .u8 0, .int .u8 0, .int .u8 0, .int .u8 0, .int .u8 0, .int .u8 0, .int .u8 0, .int .u8 0] #[.bool false, .int .u8 (code : Int), .int .u8 0, .int .u8 (d.ext : Int)]) := Lib.hid (HO.out.step (HS2.out _ HO.out.dat) ((Near.refl _ _).set _ _))
    clear o1 r6 g6
    generalize wz.setCell ⟨rb, 6, none⟩ (.int .u8 (code : Int)) = wa at *
    obtain ⟨cr, fr, co, fo⟩ := HO2.out.cells
    have o0 : wa.cell? ⟨b4, 0, none⟩ = some (.bool false) := co 0
    have o1 : wa.cell? ⟨b4, 1, none⟩ = some (.int .u8 (code : Int)) := co 1
    have o2 : wa.cell? ⟨b4, 2, none⟩ = some (.int .u8 0) := co 2
    have o3 : wa.cell? ⟨b4, 3, none⟩ = some (.int .u8 (d.ext : Int)) := co 3
    have r2 : wa.cell? ⟨rb, 2, none⟩ = some (.bool false) := (cr 2).trans HDC.out.1.2.1
    clear cr fr co fo
    go_wp2_with fail
    refine (HGR.out wa).mono ?_
    rintro e w2 ⟨rfl, b2⟩
    have HO3 := Lib.hid (HO2.out.below b2)
    clear o0 o1 o2 o3 r2 b2
    obtain ⟨cr, fr, co, fo⟩ := HO3.out.cells
    have o0 : w2.cell? ⟨b4, 0, none⟩ = some (.bool false) := co 0
    have o1 : w2.cell? ⟨b4, 1, none⟩ = some (.int .u8 (code : Int)) := co 1
    have o2 : w2.cell? ⟨b4, 2, none⟩ = some (.int .u8 0) := co 2
    have o3 : w2.cell? ⟨b4, 3, none⟩ = some (.int .u8 (d.ext : Int)) := co 3
    clear cr fr co fo
    cases g
    case' false =>
      obtain rfl : digit = 0 := HDG.out.1 rfl
      go_wp2_with fail
      have HOq : Hid (OSt w w2 rb d2 bs w.heap.size b4 #[.int .u8 0, .int .u8 0, .int .u8 0, .int .u8 0, .int .u8 0, .int .u8 0, .int .u8 0, .int .u8 0] #[.bool false, .int .u8 (code : Int), .int .u8 ((0 : Nat) : Int), .int .u8 (d.ext : Int)]) := HO3
      generalize w2 = wq at *
    case' true =>
      have hdg : x / 8 % 8 = digit := (HDG.out.2 rfl).symm
      have hX := HX.out
      have a7 : bits .and .u8 ((x : Int) / 8) 7 = (digit : Int) := by
        have := and7 ⟨x / 8, by omega⟩
        rw [hdg] at this
        rw [← this]
        congr 1
      go_wp2_with fail
      refine (HP2.out w2 HO3.out.dat).mono ?_
      rintro e w3 ⟨rfl, b3, z3⟩
      have HO4 := Lib.hid (HO3.out.below b3)
      clear b3 z3 o0 o1 o2 o3
      obtain ⟨cr, fr, co, fo⟩ := HO4.out.cells
      have o2 : w3.cell? ⟨b4, 2, none⟩ = some (.int .u8 0) := co 2
      have p2 := fo 2
      clear cr fr co fo
      go_upto_region 9 with fail
      have HOq : Hid (OSt w (w3.setCell ⟨b4, 2, none⟩ (.int .u8 (digit : Int))) rb d2 bs w.heap.size b4 #[.int .u8 0, .int .u8 0, .int .u8 0, .int .u8 0, .int .u8 0, .int .u8 0, .int .u8 0, .int .u8 0] #[.bool false, .int .u8 (code : Int), .int .u8 (digit : Int), .int .u8 (d.ext : Int)]) := Lib.hid (by
        rw [setCell_eq_setRow w3 b4 2 _ _ _ _ HO4.out.oc]
        exact HO4.out.setOc _)
      clear o2 p2
      generalize w3.setCell ⟨b4, 2, none⟩ (.int .u8 (digit : Int)) = wq at *
      obtain ⟨cr, fr, co, fo⟩ := HOq.out.cells
      have o0 : wq.cell? ⟨b4, 0, none⟩ = some (.bool false) := co 0
      have o1 : wq.cell? ⟨b4, 1, none⟩ = some (.int .u8 (code : Int)) := co 1
      have o2 : wq.cell? ⟨b4, 2, none⟩ = some (.int .u8 (digit : Int)) := co 2
      have o3 : wq.cell? ⟨b4, 3, none⟩ = some (.int .u8 (d.ext : Int)) := co 3
      have r2 : wq.cell? ⟨rb, 2, none⟩ = some (.bool false) := (cr 2).trans HDC.out.1.2.1
      clear cr fr co fo
      go_wp2_with fail
    all_goals
      refine (HRW.out wq).mono ?_
      rintro e w5 ⟨rfl, b5⟩
      have HO5 := Lib.hid (HOq.out.below b5)
      clear b5
      go_upto_region 12 with fail
      have HO6 := Lib.hid (HO5.out.below ((Below.refl _ _).alloc (Nat.le_refl _) (.cells #[.int .u8 (r.op : Int), .int .u8 (r.cond : Int), .int .u8 (r.a.1 : Int), .int .u8 (r.a.2 : Int), .int .u8 (r.b.1 : Int), .int .u8 (r.b.2 : Int), .int .u8 (r.c.1 : Int), .int .u8 (r.c.2 : Int)] 104)))
      have X6 : Hid ((w5.alloc (.cells #[.int .u8 (r.op : Int), .int .u8 (r.cond : Int), .int .u8 (r.a.1 : Int), .int .u8 (r.a.2 : Int), .int .u8 (r.b.1 : Int), .int .u8 (r.b.2 : Int), .int .u8 (r.c.1 : Int), .int .u8 (r.c.2 : Int)] 104)).heap[w5.heap.size]? = some (.cells #[.int .u8 (r.op : Int), .int .u8 (r.cond : Int), .int .u8 (r.a.1 : Int), .int .u8 (r.a.2 : Int), .int .u8 (r.b.1 : Int), .int .u8 (r.b.2 : Int), .int .u8 (r.c.1 : Int), .int .u8 (r.c.2 : Int)] 104)) := Lib.hid (heap_alloc_new _ _)
      have Nb : Hid (w5.heap.size ≠ rb ∧ w5.heap.size ≠ w.heap.size) := Lib.hid ⟨by have := HO5.out.dat.lt; omega, by have := lt_of_block HO5.out.z; omega⟩
      generalize w5.alloc (.cells #[.int .u8 (r.op : Int), .int .u8 (r.cond : Int), .int .u8 (r.a.1 : Int), .int .u8 (r.a.2 : Int), .int .u8 (r.b.1 : Int), .int .u8 (r.b.2 : Int), .int .u8 (r.c.1 : Int), .int .u8 (r.c.2 : Int)] 104) = w6 at *
      generalize w5.heap.size = b5 at *
      have HCC := HO6.out.cells
      have r3 : w6.cell? ⟨rb, 3, none⟩ = some (.bool false) := (HCC.1 3).trans HDC.out.1.2.2
      have a2 : w6.cell? ⟨b5, 2, none⟩ = some (.int .u8 (r.a.1 : Int)) := by rw [cell_of_row _ _ 2 _ _ _ X6.out]; rfl
      have t4 := HA4.out
      clear HCC
      go_quiet (fail)
      have HO7 := Lib.hid (HO6.out.below (below_drewN (Below.refl _ _) nq))
      have X7 := Lib.hid (((below_drewN (Below.refl w6.heap.size w6) nq).block _ (lt_of_block X6.out)).trans X6.out)
      clear r3 a2 t4
      generalize w6.drewN nq = w7 at *
      have u0 : w7.cell? ⟨b5, 0, none⟩ = some (.int .u8 (r.op : Int)) := by rw [cell_of_row _ _ 0 _ _ _ X7.out]; rfl
      have u1 : w7.cell? ⟨b5, 1, none⟩ = some (.int .u8 (r.cond : Int)) := by rw [cell_of_row _ _ 1 _ _ _ X7.out]; rfl
      have u2 : w7.cell? ⟨b5, 2, none⟩ = some (.int .u8 (r.a.1 : Int)) := by rw [cell_of_row _ _ 2 _ _ _ X7.out]; rfl
      have u3 : w7.cell? ⟨b5, 3, none⟩ = some (.int .u8 (r.a.2 : Int)) := by rw [cell_of_row _ _ 3 _ _ _ X7.out]; rfl
      have u4 : w7.cell? ⟨b5, 4, none⟩ = some (.int .u8 (r.b.1 : Int)) := by rw [cell_of_row _ _ 4 _ _ _ X7.out]; rfl
      have u5 : w7.cell? ⟨b5, 5, none⟩ = some (.int .u8 (r.b.2 : Int)) := by rw [cell_of_row _ _ 5 _ _ _ X7.out]; rfl
      have u6 : w7.cell? ⟨b5, 6, none⟩ = some (.int .u8 (r.c.1 : Int)) := by rw [cell_of_row _ _ 6 _ _ _ X7.out]; rfl
      have u7 : w7.cell? ⟨b5, 7, none⟩ = some (.int .u8 (r.c.2 : Int)) := by rw [cell_of_row _ _ 7 _ _ _ X7.out]; rfl
      go_wp2_with fail
      clear u0 u1 u2 u3 u4 u5 u6 u7
      refine (HFO.out w7).mono ?_
      rintro e w8 ⟨rfl, b8⟩
      have HO8 := Lib.hid (HO7.out.below b8)
      have X8 := Lib.hid ((b8.block _ (lt_of_block X7.out)).trans X7.out)
      clear b8
      cases hf : r.formed
      case' false =>
        have u0 : w8.cell? ⟨b5, 0, none⟩ = some (.int .u8 (r.op : Int)) := by rw [cell_of_row _ _ 0 _ _ _ X8.out]; rfl
        have u1 : w8.cell? ⟨b5, 1, none⟩ = some (.int .u8 (r.cond : Int)) := by rw [cell_of_row _ _ 1 _ _ _ X8.out]; rfl
        have u2 : w8.cell? ⟨b5, 2, none⟩ = some (.int .u8 (r.a.1 : Int)) := by rw [cell_of_row _ _ 2 _ _ _ X8.out]; rfl
        have u3 : w8.cell? ⟨b5, 3, none⟩ = some (.int .u8 (r.a.2 : Int)) := by rw [cell_of_row _ _ 3 _ _ _ X8.out]; rfl
        have u4 : w8.cell? ⟨b5, 4, none⟩ = some (.int .u8 (r.b.1 : Int)) := by rw [cell_of_row _ _ 4 _ _ _ X8.out]; rfl
        have u5 : w8.cell? ⟨b5, 5, none⟩ = some (.int .u8 (r.b.2 : Int)) := by rw [cell_of_row _ _ 5 _ _ _ X8.out]; rfl
        have u6 : w8.cell? ⟨b5, 6, none⟩ = some (.int .u8 (r.c.1 : Int)) := by rw [cell_of_row _ _ 6 _ _ _ X8.out]; rfl
        have u7 : w8.cell? ⟨b5, 7, none⟩ = some (.int .u8 (r.c.2 : Int)) := by rw [cell_of_row _ _ 7 _ _ _ X8.out]; rfl
        have c0 : w8.cell? ⟨w.heap.size, 0, none⟩ = some (.int .u8 0) := by rw [cell_of_row _ _ 0 _ _ _ HO8.out.z]; rfl
        have f0 : w8.frozen? ⟨w.heap.size, 0, none⟩ = false := frozen_of_row _ _ _ _ _ HO8.out.z
        have c1 : w8.cell? ⟨w.heap.size, 1, none⟩ = some (.int .u8 0) := by rw [cell_of_row _ _ 1 _ _ _ HO8.out.z]; rfl
        have f1 : w8.frozen? ⟨w.heap.size, 1, none⟩ = false := frozen_of_row _ _ _ _ _ HO8.out.z
        have c2 : w8.cell? ⟨w.heap.size, 2, none⟩ = some (.int .u8 0) := by rw [cell_of_row _ _ 2 _ _ _ HO8.out.z]; rfl
        have f2 : w8.frozen? ⟨w.heap.size, 2, none⟩ = false := frozen_of_row _ _ _ _ _ HO8.out.z
        have c3 : w8.cell? ⟨w.heap.size, 3, none⟩ = some (.int .u8 0) := by rw [cell_of_row _ _ 3 _ _ _ HO8.out.z]; rfl
        have f3 : w8.frozen? ⟨w.heap.size, 3, none⟩ = false := frozen_of_row _ _ _ _ _ HO8.out.z
        have c4 : w8.cell? ⟨w.heap.size, 4, none⟩ = some (.int .u8 0) := by rw [cell_of_row _ _ 4 _ _ _ HO8.out.z]; rfl
        have f4 : w8.frozen? ⟨w.heap.size, 4, none⟩ = false := frozen_of_row _ _ _ _ _ HO8.out.z
        have c5 : w8.cell? ⟨w.heap.size, 5, none⟩ = some (.int .u8 0) := by rw [cell_of_row _ _ 5 _ _ _ HO8.out.z]; rfl
        have f5 : w8.frozen? ⟨w.heap.size, 5, none⟩ = false := frozen_of_row _ _ _ _ _ HO8.out.z
        have c6 : w8.cell? ⟨w.heap.size, 6, none⟩ = some (.int .u8 0) := by rw [cell_of_row _ _ 6 _ _ _ HO8.out.z]; rfl
        have f6 : w8.frozen? ⟨w.heap.size, 6, none⟩ = false := frozen_of_row _ _ _ _ _ HO8.out.z
        have c7 : w8.cell? ⟨w.heap.size, 7, none⟩ = some (.int .u8 0) := by rw [cell_of_row _ _ 7 _ _ _ HO8.out.z]; rfl
        have f7 : w8.frozen? ⟨w.heap.size, 7, none⟩ = false := frozen_of_row _ _ _ _ _ HO8.out.z
        go_wp2_with fail
        rw [eight_stores HO8.out.z]
        clear u0 c0 f0 u1 c1 f1 u2 c2 f2 u3 c3 f3 u4 c4 f4 u5 c5 f5 u6 c6 f6 u7 c7 f7
        refine bodyPost_ret_by (results_cellT Tryz.results40 _ _ w.heap.size 104 #[.int .u8 (r.op : Int), .int .u8 (r.cond : Int), .int .u8 (r.a.1 : Int), .int .u8 (r.a.2 : Int), .int .u8 (r.b.1 : Int), .int .u8 (r.b.2 : Int), .int .u8 (r.c.1 : Int), .int .u8 (r.c.2 : Int)] (0, 0) _ rfl (setRow_heap _ _ _ _ _ _ HO8.out.z) Tryz.underlying104 rfl HIR.out) (by rfl) ?_
        refine ⟨rfl, ?_, HO8.out.near.setNew (Nat.le_refl _) HO8.out.lo _⟩
        rw [← HFIN.out.2 hf]
        exact HO8.out.dat.near HO8.out.z (by have := HO8.out.lo; omega) (by decide) (near_row _ _ _)
      case' true =>
        go_wp2_with fail
        refine (HN3.out w8 HO8.out.dat).mono ?_
        rintro e w9 ⟨rfl, D9, n9, z9⟩
        have HO9 := Lib.hid (HO8.out.step D9 n9)
        have X9 := Lib.hid ((n9.block (lt_of_block X8.out) Nb.out.1).trans X8.out)
        clear D9 n9 z9
        have HCC := HO9.out.cells
        have r7 : w9.cell? ⟨rb, 7, none⟩ = some (.int .u8 (d.form : Int)) := (HCC.1 7).trans HDC.out.2.1
        have g7 := HCC.2.1 7
        clear HCC
        go_upto_region 17 with fail
        have HOA := Lib.hid (HO9.out.step (HS4.out _ HO9.out.dat) ((Near.refl rb w9).set 7 (.int .u8 (x : Int))))
        have XA := Lib.hid ((((Near.refl rb w9).set 7 (.int .u8 (x : Int))).block (lt_of_block X9.out) Nb.out.1).trans X9.out)
        clear r7 g7
        generalize w9.setCell ⟨rb, 7, none⟩ (.int .u8 (x : Int)) = wA at *
        have HCC := HOA.out.cells
        have r2 : wA.cell? ⟨rb, 2, none⟩ = some (.bool false) := (HCC.1 2).trans HDC.out.2.2.1
        have r3 : wA.cell? ⟨rb, 3, none⟩ = some (.bool false) := (HCC.1 3).trans HDC.out.2.2.2
        have a2 : wA.cell? ⟨b5, 2, none⟩ = some (.int .u8 (r.a.1 : Int)) := by rw [cell_of_row _ _ 2 _ _ _ XA.out]; rfl
        have a3 : wA.cell? ⟨b5, 3, none⟩ = some (.int .u8 (r.a.2 : Int)) := by rw [cell_of_row _ _ 3 _ _ _ XA.out]; rfl
        clear HCC
        go_wp2_with fail
        refine ((HMY.out wA hf HOA.out.dat).1).mono ?_
        rintro e wB ⟨rfl, bB⟩
        have HOB := Lib.hid (HOA.out.below bB)
        have XB := Lib.hid ((bB.block _ (lt_of_block XA.out)).trans XA.out)
        clear r2 r3 a2 a3 bB
        have a4 : wB.cell? ⟨b5, 4, none⟩ = some (.int .u8 (r.b.1 : Int)) := by rw [cell_of_row _ _ 4 _ _ _ XB.out]; rfl
        have a5 : wB.cell? ⟨b5, 5, none⟩ = some (.int .u8 (r.b.2 : Int)) := by rw [cell_of_row _ _ 5 _ _ _ XB.out]; rfl
        go_wp2_with fail
        refine ((HMY.out wB hf HOB.out.dat).2).mono ?_
        rintro e wC ⟨rfl, bC⟩
        have HOC := Lib.hid (HOB.out.below bC)
        have XC := Lib.hid ((bC.block _ (lt_of_block XB.out)).trans XB.out)
        clear a4 a5 bC
        have u0 : wC.cell? ⟨b5, 0, none⟩ = some (.int .u8 (r.op : Int)) := by rw [cell_of_row _ _ 0 _ _ _ XC.out]; rfl
        have u1 : wC.cell? ⟨b5, 1, none⟩ = some (.int .u8 (r.cond : Int)) := by rw [cell_of_row _ _ 1 _ _ _ XC.out]; rfl
        have u2 : wC.cell? ⟨b5, 2, none⟩ = some (.int .u8 (r.a.1 : Int)) := by rw [cell_of_row _ _ 2 _ _ _ XC.out]; rfl
        have u3 : wC.cell? ⟨b5, 3, none⟩ = some (.int .u8 (r.a.2 : Int)) := by rw [cell_of_row _ _ 3 _ _ _ XC.out]; rfl
        have u4 : wC.cell? ⟨b5, 4, none⟩ = some (.int .u8 (r.b.1 : Int)) := by rw [cell_of_row _ _ 4 _ _ _ XC.out]; rfl
        have u5 : wC.cell? ⟨b5, 5, none⟩ = some (.int .u8 (r.b.2 : Int)) := by rw [cell_of_row _ _ 5 _ _ _ XC.out]; rfl
        have u6 : wC.cell? ⟨b5, 6, none⟩ = some (.int .u8 (r.c.1 : Int)) := by rw [cell_of_row _ _ 6 _ _ _ XC.out]; rfl
        have u7 : wC.cell? ⟨b5, 7, none⟩ = some (.int .u8 (r.c.2 : Int)) := by rw [cell_of_row _ _ 7 _ _ _ XC.out]; rfl
        have c0 : wC.cell? ⟨w.heap.size, 0, none⟩ = some (.int .u8 0) := by rw [cell_of_row _ _ 0 _ _ _ HOC.out.z]; rfl
        have f0 : wC.frozen? ⟨w.heap.size, 0, none⟩ = false := frozen_of_row _ _ _ _ _ HOC.out.z
        have c1 : wC.cell? ⟨w.heap.size, 1, none⟩ = some (.int .u8 0) := by rw [cell_of_row _ _ 1 _ _ _ HOC.out.z]; rfl
        have f1 : wC.frozen? ⟨w.heap.size, 1, none⟩ = false := frozen_of_row _ _ _ _ _ HOC.out.z
        have c2 : wC.cell? ⟨w.heap.size, 2, none⟩ = some (.int .u8 0) := by rw [cell_of_row _ _ 2 _ _ _ HOC.out.z]; rfl
        have f2 : wC.frozen? ⟨w.heap.size, 2, none⟩ = false := frozen_of_row _ _ _ _ _ HOC.out.z
        have c3 : wC.cell? ⟨w.heap.size, 3, none⟩ = some (.int .u8 0) := by rw [cell_of_row _ _ 3 _ _ _ HOC.out.z]; rfl
        have f3 : wC.frozen? ⟨w.heap.size, 3, none⟩ = false := frozen_of_row _ _ _ _ _ HOC.out.z
        have c4 : wC.cell? ⟨w.heap.size, 4, none⟩ = some (.int .u8 0) := by rw [cell_of_row _ _ 4 _ _ _ HOC.out.z]; rfl
        have f4 : wC.frozen? ⟨w.heap.size, 4, none⟩ = false := frozen_of_row _ _ _ _ _ HOC.out.z
        have c5 : wC.cell? ⟨w.heap.size, 5, none⟩ = some (.int .u8 0) := by rw [cell_of_row _ _ 5 _ _ _ HOC.out.z]; rfl
        have f5 : wC.frozen? ⟨w.heap.size, 5, none⟩ = false := frozen_of_row _ _ _ _ _ HOC.out.z
        have c6 : wC.cell? ⟨w.heap.size, 6, none⟩ = some (.int .u8 0) := by rw [cell_of_row _ _ 6 _ _ _ HOC.out.z]; rfl
        have f6 : wC.frozen? ⟨w.heap.size, 6, none⟩ = false := frozen_of_row _ _ _ _ _ HOC.out.z
        have c7 : wC.cell? ⟨w.heap.size, 7, none⟩ = some (.int .u8 0) := by rw [cell_of_row _ _ 7 _ _ _ HOC.out.z]; rfl
        have f7 : wC.frozen? ⟨w.heap.size, 7, none⟩ = false := frozen_of_row _ _ _ _ _ HOC.out.z
        go_wp2_with fail
        rw [eight_stores HOC.out.z]
        clear u0 c0 f0 u1 c1 f1 u2 c2 f2 u3 c3 f3 u4 c4 f4 u5 c5 f5 u6 c6 f6 u7 c7 f7
        refine bodyPost_ret_by (results_cellT Tryz.results40 _ _ w.heap.size 104 #[.int .u8 (r.op : Int), .int .u8 (r.cond : Int), .int .u8 (r.a.1 : Int), .int .u8 (r.a.2 : Int), .int .u8 (r.b.1 : Int), .int .u8 (r.b.2 : Int), .int .u8 (r.c.1 : Int), .int .u8 (r.c.2 : Int)] (0, 0) _ rfl (setRow_heap _ _ _ _ _ _ HOC.out.z) Tryz.underlying104 rfl HIR.out) (by rfl) ?_
        refine ⟨rfl, ?_, HOC.out.near.setNew (Nat.le_refl _) HOC.out.lo _⟩
        rw [← HFIN.out.1 hf]
        exact HOC.out.dat.near HOC.out.z (by have := HOC.out.lo; omega) (by decide) (near_row _ _ _)
end Go.Proofs.YtmnjkaimpejohaaGreatDoor
