/- Layer 12: an instruction that bytes begin with, by what its parts answer. -/
import Derived.Test.YtmnjkaimpejohaaGreatDoorDecOpnd
import Derived.Test.YtmnjkaimpejohaaGreatDoorRowAt
import Derived.Test.YtmnjkaimpejohaaGreatDoorVmPage
import Derived.Deep.WholeRow
import Derived.Deep.DeepCutAuto
namespace Go.Proofs.YtmnjkaimpejohaaGreatDoor
open Go.RowKit
set_option linter.unusedVariables false
set_option linter.unusedSimpArgs false

/-- an operand's cells: kind, register, width -/
def operC (k n W : Int) : Array Value := #[.int .i64 k, .int .i64 n, .int .i64 W, .int .i64 0, .int .i64 0, .int .i64 0, .int .i64 0, .int .i64 0, .bool false, .bool false]
/-- an instruction's cells -/
def instC (op sz cd ka na wa kb nb wb kc nc wc : Int) : Array Value := #[.int .i64 op, .int .i64 sz, .int .i64 cd,
  .int .i64 ka, .int .i64 na, .int .i64 wa, .int .i64 0, .int .i64 0, .int .i64 0, .int .i64 0, .int .i64 0, .bool false, .bool false,
  .int .i64 kb, .int .i64 nb, .int .i64 wb, .int .i64 0, .int .i64 0, .int .i64 0, .int .i64 0, .int .i64 0, .bool false, .bool false,
  .int .i64 kc, .int .i64 nc, .int .i64 wc, .int .i64 0, .int .i64 0, .int .i64 0, .int .i64 0, .int .i64 0, .bool false, .bool false]
theorem inst_zero (op cd : Int) : Tryz.prog.built 54 [(0, .int .i64 op), (2, .int .i64 cd)] = some (instC op 0 cd 0 0 0 0 0 0 0 0 0) := by kernel_rfl
theorem inst_a (op sz cd ka na wa : Int) : overR (instC op sz cd 0 0 0 0 0 0 0 0 0) 3 (operC ka na wa).toList = instC op sz cd ka na wa 0 0 0 0 0 0 := rfl
theorem inst_b (op sz cd ka na wa kb nb wb : Int) : overR (instC op sz cd ka na wa 0 0 0 0 0 0) 13 (operC kb nb wb).toList = instC op sz cd ka na wa kb nb wb 0 0 0 := rfl
theorem inst_c (op sz cd ka na wa kb nb wb kc nc wc : Int) : overR (instC op sz cd ka na wa kb nb wb 0 0 0) 23 (operC kc nc wc).toList = instC op sz cd ka na wa kb nb wb kc nc wc := rfl
theorem inst_s (op sz sz' cd ka na wa kb nb wb kc nc wc : Int) : (instC op sz cd ka na wa kb nb wb kc nc wc).setIfInBounds 1 (.int .i64 sz') = instC op sz' cd ka na wa kb nb wb kc nc wc := rfl
theorem inst_one (op sz cd ka na wa kb nb wb kc nc wc : Int) : (instC op sz cd ka na wa kb nb wb kc nc wc).all (·.oneCell') = true := by simp [instC, Value.oneCell']
theorem oper_one (k n W : Int) : (operC k n W).all (·.oneCell') = true := by simp [operC, Value.oneCell']
theorem inst_size (op sz cd ka na wa kb nb wb kc nc wc : Int) : (instC op sz cd ka na wa kb nb wb kc nc wc).size = 33 := rfl
theorem inst_info : (Tryz.prog.info? 54).map (·.size) = some 33 := by kernel_rfl
theorem oper_info : (Tryz.prog.info? 52).map (·.size) = some 10 := by kernel_rfl
/-- where the reading stands: the answer's box, the source, the row's box, the instruction's box -/
structure DSt (w0 w : World) (rb : Nat) (d : DS) (bs : List Nat) (b2 b5 b7 : Nat) (RV I Z : Array Value) : Prop where
  dat : DAt w rb d bs
  z : w.heap[b2]? = some (.cells Z 54)
  row : w.heap[b5]? = some (.cells RV 104)
  ins : w.heap[b7]? = some (.cells I 54)
  bel : Below w0.heap.size w0 w
  lo : w0.heap.size ≤ rb ∧ w0.heap.size ≤ b2 ∧ w0.heap.size ≤ b5 ∧ w0.heap.size ≤ b7
  ne : b7 ≠ rb ∧ b7 ≠ b5 ∧ b7 ≠ b2
theorem DSt.below {w0 w w' : World} {rb : Nat} {d : DS} {bs : List Nat} {b2 b5 b7 : Nat} {RV I Z : Array Value} (h : DSt w0 w rb d bs b2 b5 b7 RV I Z) (hb : Below w.heap.size w w') : DSt w0 w' rb d bs b2 b5 b7 RV I Z :=
  ⟨h.dat.below hb, (hb.block _ (lt_of_block h.z)).trans h.z, (hb.block _ (lt_of_block h.row)).trans h.row, (hb.block _ (lt_of_block h.ins)).trans h.ins, h.bel.trans (hb.mono h.bel.size), h.lo, h.ne⟩
theorem DSt.setI {w0 w : World} {rb : Nat} {d : DS} {bs : List Nat} {b2 b5 b7 : Nat} {RV I Z : Array Value} (h : DSt w0 w rb d bs b2 b5 b7 RV I Z) (I' : Array Value) : DSt w0 (w.setRow b7 I') rb d bs b2 b5 b7 RV I' Z :=
  ⟨h.dat.near h.ins (by have := h.ne; omega) (by decide) (near_row _ _ _), (setRow_other _ _ _ _ (by have := h.ne; omega)).trans h.z, (setRow_other _ _ _ _ (by have := h.ne; omega)).trans h.row, setRow_heap _ _ _ _ _ _ h.ins, below_setRow h.bel h.lo.2.2.2 _, h.lo, h.ne⟩
theorem DSt.cells {w0 w : World} {rb : Nat} {d : DS} {bs : List Nat} {b2 b5 b7 : Nat} {RV I Z : Array Value} (h : DSt w0 w rb d bs b2 b5 b7 RV I Z) : (∀ j, w.cell? ⟨rb, j, none⟩ = d.cells[j]?) ∧ ∀ j, w.cell? ⟨b5, j, none⟩ = RV[j]? :=
  ⟨fun j => cell_of_row _ _ j _ _ _ h.dat.box, fun j => cell_of_row _ _ j _ _ _ h.row⟩
set_option maxRecDepth 100000 in
set_option maxHeartbeats 32000000 in
theorem dec_any (ad : Option Addr) (n c : Nat) (bs : List Nat) (w : World) (h : OwnI w 0 5 .u8 (.slice ad n c) (toI bs)) (hbyte : ∀ b ∈ bs, b < 256) (hlen : bs.length = n) (hbig : n ≤ 1048576) (hn : 0 < n) (h243 : bs.getD 0 0 ≠ 243) (d1 d2 : DS) (r : DRow) (ka na wa kb nb wb kc nc wc : Int)
    (hP : ∀ rb wx, DAt wx rb ⟨ad, n, c, 0, false, false, false, 0, 0, 0⟩ bs → Calls Tryz.prog 39 #[.pointer (some ⟨rb, 0, none⟩)] wx fun e w' => e = .returned (.tuple #[]) ∧ DAt w' rb d1 bs ∧ Near rb wx w')
    (hR : ∀ rb wx, DAt wx rb d1 bs → Calls Tryz.prog 40 #[.pointer (some ⟨rb, 0, none⟩)] wx fun e w' => e = .returned (.tuple #[r.v, .nilIface]) ∧ DAt w' rb d2 bs ∧ Near rb wx w')
    (hA : ∀ rb wx, DAt wx rb d2 bs → Calls Tryz.prog 41 #[.pointer (some ⟨rb, 0, none⟩), .agg #[.int .u8 (r.a.1 : Int), .int .u8 (r.a.2 : Int)]] wx fun e w' => e = .returned (.agg (operC ka na wa)) ∧ Below wx.heap.size wx w')
    (hB : ∀ rb wx, DAt wx rb d2 bs → Calls Tryz.prog 41 #[.pointer (some ⟨rb, 0, none⟩), .agg #[.int .u8 (r.b.1 : Int), .int .u8 (r.b.2 : Int)]] wx fun e w' => e = .returned (.agg (operC kb nb wb)) ∧ Below wx.heap.size wx w')
    (hC : ∀ rb wx, DAt wx rb d2 bs → Calls Tryz.prog 41 #[.pointer (some ⟨rb, 0, none⟩), .agg #[.int .u8 (r.c.1 : Int), .int .u8 (r.c.2 : Int)]] wx fun e w' => e = .returned (.agg (operC kc nc wc)) ∧ Below wx.heap.size wx w')
    (hs : d2.short = false) (hop : r.op < 256) (hcd : r.cond < 256) :
    Calls Tryz.prog 24 #[.slice ad n c] w fun e w' => e = .returned (.tuple #[.agg (instC r.op d2.pos r.cond ka na wa kb nb wb kc nc wc), .nilIface]) ∧ Below w.heap.size w w' := by
  obtain ⟨b, o, rfl, hc0⟩ : ∃ b o, ad = some ⟨b, o, none⟩ ∧ w.cell? ⟨b, o + 0, none⟩ = some (.int .u8 ((bs.getD 0 0 : Nat) : Int)) := by
    obtain ⟨b, o, e, hc⟩ := h.at.2.1 0 (by rw [toI_length]; omega)
    refine ⟨b, o, e, ?_⟩
    rw [hc]
    simp [toI, List.getD, hlen, hn]
  have H0 := Lib.hid (show ∀ rb wx, Below w.heap.size w wx → wx.heap[rb]? = some (.cells (DS.cells ⟨some ⟨b, o, none⟩, n, c, 0, false, false, false, 0, 0, 0⟩) 100) → DAt wx rb ⟨some ⟨b, o, none⟩, n, c, 0, false, false, false, 0, 0, 0⟩ bs from fun rb wx hb hx => ⟨hx, h.below hb, hbyte, hlen, hbig⟩)
  have HP := Lib.hid hP
  have HR := Lib.hid hR
  have HA := Lib.hid hA
  have HB := Lib.hid hB
  have HC := Lib.hid hC
  obtain ⟨x0, hx0⟩ : ∃ x0, bs.getD 0 0 = x0 := ⟨_, rfl⟩
  rw [hx0, Nat.add_zero] at hc0
  rw [hx0] at h243
  have hblt : b < w.heap.size := by simpa using World.block_lt_of_cell? w _ hc0
  have t1 : ((x0 : Int) == 243) = false := by rw [beq_eq_false_iff_ne]; omega
  have t1b : ((x0 : Int) == (((({ data := #[243, 15, 30, 250] } : ByteArray))[0]'(by decide)).toNat : Int)) = false := t1
  have t0 : decide ((0 : Int) < (n : Int)) = true := by simp; omega
  have i2 : (0 : Int) < (n : Int) := by omega
  clear h hbyte hlen hP hR hA hB hC hx0 h243
  go_enter Tryz.func24, Tryz.ntmps24
  go_wp2_with fail
  go_quiet (fail)
  go_wp2_with fail
  have Z0 : Hid (((w.alloc (.cells (instC 0 0 0 0 0 0 0 0 0 0 0 0) 54)).drewN nq).heap.size = w.heap.size + 1) := Lib.hid (by simp)
  have BD0 : Hid (Below w.heap.size w ((w.alloc (.cells (instC 0 0 0 0 0 0 0 0 0 0 0 0) 54)).drewN nq)) := Lib.hid (below_drewN (by go_grown) _)
  have ZB0 : Hid (((w.alloc (.cells (instC 0 0 0 0 0 0 0 0 0 0 0 0) 54)).drewN nq).heap[w.heap.size]? = some (.cells (instC 0 0 0 0 0 0 0 0 0 0 0 0) 54)) := Lib.hid (by rw [World.heap_drewN]; exact heap_alloc_new _ _)
  rw [show (#[.int .i64 0, .int .i64 0, .int .i64 0, .int .i64 0, .int .i64 0, .int .i64 0, .int .i64 0, .int .i64 0, .int .i64 0, .int .i64 0, .int .i64 0, .bool false, .bool false, .int .i64 0, .int .i64 0, .int .i64 0, .int .i64 0, .int .i64 0, .int .i64 0, .int .i64 0, .int .i64 0, .bool false, .bool false, .int .i64 0, .int .i64 0, .int .i64 0, .int .i64 0, .int .i64 0, .int .i64 0, .int .i64 0, .int .i64 0, .bool false, .bool false] : Array Value) = instC 0 0 0 0 0 0 0 0 0 0 0 0 from rfl]
  generalize (w.alloc (.cells (instC 0 0 0 0 0 0 0 0 0 0 0 0) 54)).drewN nq = wq0 at *
  have XR := heap_alloc_new wq0 (.cells (DS.cells ⟨some ⟨b, o, none⟩, n, c, 0, false, false, false, 0, 0, 0⟩) 100)
  rw [Z0.out] at XR
  have X1 := Lib.hid (H0.out _ _ (BD0.out.alloc BD0.out.size _) XR)
  have BD1 := Lib.hid (BD0.out.alloc BD0.out.size (.cells (DS.cells ⟨some ⟨b, o, none⟩, n, c, 0, false, false, false, 0, 0, 0⟩) 100))
  have ZB1 := Lib.hid ((heap_alloc_old wq0 (.cells (DS.cells ⟨some ⟨b, o, none⟩, n, c, 0, false, false, false, 0, 0, 0⟩) 100) (lt_of_block ZB0.out)).trans ZB0.out)
  clear XR
  unfold DS.cells at X1 BD1 ZB1
  simp only at X1 BD1 ZB1
  obtain ⟨rb, hrb⟩ : ∃ rb, w.heap.size + 1 = rb := ⟨_, rfl⟩
  have HRB := Lib.hid hrb
  rw [hrb] at X1 ⊢
  clear hrb H0
  refine (HP.out rb _ X1.out).mono ?_
  rintro e w2 ⟨rfl, D2, n2⟩
  have X2 := Lib.hid D2
  have N2 := Lib.hid n2
  clear D2 n2 HP
  go_wp2_with fail
  refine (HR.out rb _ X2.out).mono ?_
  rintro e w3 ⟨rfl, D3, n3⟩
  have HI : Hid (DSt w (w3) rb d2 bs w.heap.size 0 0 #[] #[] (instC 0 0 0 0 0 0 0 0 0 0 0 0) → True) := Lib.hid (fun _ => trivial)
  have BD3 : Hid (Below w.heap.size w w3) := Lib.hid (BD1.out.trans ((N2.out.trans n3).below.mono (by have := HRB.out; omega)))
  have ZB3 : Hid (w3.heap[w.heap.size]? = some (.cells (instC 0 0 0 0 0 0 0 0 0 0 0 0) 54)) := Lib.hid (((N2.out.trans n3).block (lt_of_block ZB1.out) (by have := HRB.out; omega)).trans ZB1.out)
  have X3 := Lib.hid D3
  clear HI D3 n3 N2 X2 X1 BD1 ZB1 BD0 ZB0 Z0 HR
  unfold DRow.v
  have e8 : IntKind.i64.wrap (r.op : Int) = (r.op : Int) := by rw [IntKind.wrap_i64]; omega
  have e9 : IntKind.i64.wrap (r.cond : Int) = (r.cond : Int) := by rw [IntKind.wrap_i64]; omega
  have X7 := Lib.hid (two_new w3 #[.int .u8 (r.op : Int), .int .u8 (r.cond : Int), .int .u8 (r.a.1 : Int), .int .u8 (r.a.2 : Int), .int .u8 (r.b.1 : Int), .int .u8 (r.b.2 : Int), .int .u8 (r.c.1 : Int), .int .u8 (r.c.2 : Int)] (instC 0 0 0 0 0 0 0 0 0 0 0 0) 104 54)
  have HON := Lib.hid (inst_one r.op 0 r.cond 0 0 0 0 0 0 0 0 0)
  have HIN : Hid ((Tryz.prog.info? 54).map (·.size) = some (instC r.op 0 r.cond 0 0 0 0 0 0 0 0 0).size) := Lib.hid inst_info
  go_upto_region 9 with (first
    | (refine wpList_store_row rfl 54 _ _ rfl (w3.heap.size + 1) (instC r.op 0 r.cond 0 0 0 0 0 0 0 0 0) rfl (by rfl) 54 _ X7.out HIN.out (by rfl) HON.out ?_)
    | (show wpList _ _ _ ({ dst := some 40, .. } :: _) _ _; refine wpList_plain rfl fun _ hK => wp_buildas 54 _ rfl [(0, .int .i64 (r.op : Int)), (2, .int .i64 (r.cond : Int))] (instC r.op 0 r.cond 0 0 0 0 0 0 0 0 0) (by rw [Array.toList_map]; rfl) (inst_zero _ _) (hK _ _ ?_)))
  rw [show (#[.int .i64 0, .int .i64 0, .int .i64 0, .int .i64 0, .int .i64 0, .int .i64 0, .int .i64 0, .int .i64 0, .int .i64 0, .int .i64 0, .int .i64 0, .bool false, .bool false, .int .i64 0, .int .i64 0, .int .i64 0, .int .i64 0, .int .i64 0, .int .i64 0, .int .i64 0, .int .i64 0, .bool false, .bool false, .int .i64 0, .int .i64 0, .int .i64 0, .int .i64 0, .int .i64 0, .int .i64 0, .int .i64 0, .int .i64 0, .bool false, .bool false] : Array Value) = instC 0 0 0 0 0 0 0 0 0 0 0 0 from rfl]
  have Z8 : Hid (DSt w (((w3.alloc (.cells #[.int .u8 (r.op : Int), .int .u8 (r.cond : Int), .int .u8 (r.a.1 : Int), .int .u8 (r.a.2 : Int), .int .u8 (r.b.1 : Int), .int .u8 (r.b.2 : Int), .int .u8 (r.c.1 : Int), .int .u8 (r.c.2 : Int)] 104)).alloc (.cells (instC 0 0 0 0 0 0 0 0 0 0 0 0) 54)).setRow (w3.heap.size + 1) (instC r.op 0 r.cond 0 0 0 0 0 0 0 0 0)) rb d2 bs w.heap.size w3.heap.size (w3.heap.size + 1) #[.int .u8 (r.op : Int), .int .u8 (r.cond : Int), .int .u8 (r.a.1 : Int), .int .u8 (r.a.2 : Int), .int .u8 (r.b.1 : Int), .int .u8 (r.b.2 : Int), .int .u8 (r.c.1 : Int), .int .u8 (r.c.2 : Int)] (instC r.op 0 r.cond 0 0 0 0 0 0 0 0 0) (instC 0 0 0 0 0 0 0 0 0 0 0 0)) := Lib.hid (by
    have h1 : Below w3.heap.size w3 ((w3.alloc (.cells #[.int .u8 (r.op : Int), .int .u8 (r.cond : Int), .int .u8 (r.a.1 : Int), .int .u8 (r.a.2 : Int), .int .u8 (r.b.1 : Int), .int .u8 (r.b.2 : Int), .int .u8 (r.c.1 : Int), .int .u8 (r.c.2 : Int)] 104)).alloc (.cells (instC 0 0 0 0 0 0 0 0 0 0 0 0) 54)) := by go_grown
    have hl := lt_of_block X3.out.box
    have hz := lt_of_block ZB3.out
    have h2 := two_new w3 #[.int .u8 (r.op : Int), .int .u8 (r.cond : Int), .int .u8 (r.a.1 : Int), .int .u8 (r.a.2 : Int), .int .u8 (r.b.1 : Int), .int .u8 (r.b.2 : Int), .int .u8 (r.c.1 : Int), .int .u8 (r.c.2 : Int)] (instC 0 0 0 0 0 0 0 0 0 0 0 0) 104 54
    have h3 : DSt w ((w3.alloc (.cells #[.int .u8 (r.op : Int), .int .u8 (r.cond : Int), .int .u8 (r.a.1 : Int), .int .u8 (r.a.2 : Int), .int .u8 (r.b.1 : Int), .int .u8 (r.b.2 : Int), .int .u8 (r.c.1 : Int), .int .u8 (r.c.2 : Int)] 104)).alloc (.cells (instC 0 0 0 0 0 0 0 0 0 0 0 0) 54)) rb d2 bs w.heap.size w3.heap.size (w3.heap.size + 1) #[.int .u8 (r.op : Int), .int .u8 (r.cond : Int), .int .u8 (r.a.1 : Int), .int .u8 (r.a.2 : Int), .int .u8 (r.b.1 : Int), .int .u8 (r.b.2 : Int), .int .u8 (r.c.1 : Int), .int .u8 (r.c.2 : Int)] (instC 0 0 0 0 0 0 0 0 0 0 0 0) (instC 0 0 0 0 0 0 0 0 0 0 0 0) :=
      ⟨X3.out.below h1, (h1.block _ hz).trans ZB3.out, (heap_alloc_old _ _ (by simp)).trans (heap_alloc_new _ _), h2, BD3.out.trans (h1.mono BD3.out.size), ⟨by have := HRB.out; omega, Nat.le_refl _, BD3.out.size, by have := BD3.out.size; omega⟩, by omega, by omega, by omega⟩
    exact h3.setI _)
  generalize ((w3.alloc (.cells #[.int .u8 (r.op : Int), .int .u8 (r.cond : Int), .int .u8 (r.a.1 : Int), .int .u8 (r.a.2 : Int), .int .u8 (r.b.1 : Int), .int .u8 (r.b.2 : Int), .int .u8 (r.c.1 : Int), .int .u8 (r.c.2 : Int)] 104)).alloc (.cells (instC 0 0 0 0 0 0 0 0 0 0 0 0) 54)).setRow (w3.heap.size + 1) (instC r.op 0 r.cond 0 0 0 0 0 0 0 0 0) = w8 at *
  obtain ⟨b5, hb5⟩ : ∃ b5, w3.heap.size = b5 := ⟨_, rfl⟩
  obtain ⟨b7, hb7⟩ : ∃ b7, w3.heap.size + 1 = b7 := ⟨_, rfl⟩
  rw [hb7, hb5] at Z8
  try rw [hb7]
  try rw [hb5]
  clear hb5 hb7 X7 HON HIN X3 BD3 ZB3 e8 e9
  obtain ⟨-, hr9⟩ := Z8.out.cells
  have q2 := hr9 2
  have q3 := hr9 3
  have q4 := hr9 4
  have q5 := hr9 5
  have q6 := hr9 6
  have q7 := hr9 7
  simp only [List.getElem?_toArray, List.getElem?_cons_succ, List.getElem?_cons_zero] at q2 q3 q4 q5 q6 q7
  clear hr9
  go_wp2_with fail
  clear q2 q3 q4 q5 q6 q7
  refine (HA.out rb _ Z8.out.dat).mono ?_
  rintro e w9 ⟨rfl, hb9⟩
  have Y9 := Lib.hid (Z8.out.below hb9)
  clear hb9 Z8
  have HO9 := Lib.hid (oper_one ka na wa)
  have HJ9 : Hid ((Tryz.prog.info? 52).map (·.size) = some (operC ka na wa).size) := Lib.hid oper_info
  go_upto_region 10 with (refine wpList_store_at rfl 52 _ _ rfl b7 3 (operC ka na wa) rfl (by rfl) 54 (instC r.op 0 r.cond 0 0 0 0 0 0 0 0 0) Y9.out.ins HJ9.out (show 3 + 10 ≤ 33 from by decide) HO9.out ?_)
  rw [inst_a]
  have Z9 := Lib.hid (Y9.out.setI (instC r.op 0 r.cond ka na wa 0 0 0 0 0 0))
  clear Y9 HO9 HJ9 HA
  generalize w9.setRow b7 (instC r.op 0 r.cond ka na wa 0 0 0 0 0 0) = wA at *
  obtain ⟨-, hr10⟩ := Z9.out.cells
  have q2 := hr10 2
  have q3 := hr10 3
  have q4 := hr10 4
  have q5 := hr10 5
  have q6 := hr10 6
  have q7 := hr10 7
  simp only [List.getElem?_toArray, List.getElem?_cons_succ, List.getElem?_cons_zero] at q2 q3 q4 q5 q6 q7
  clear hr10
  go_wp2_with fail
  clear q2 q3 q4 q5 q6 q7
  refine (HB.out rb _ Z9.out.dat).mono ?_
  rintro e wB ⟨rfl, hb10⟩
  have Y10 := Lib.hid (Z9.out.below hb10)
  clear hb10 Z9
  have HO10 := Lib.hid (oper_one kb nb wb)
  have HJ10 : Hid ((Tryz.prog.info? 52).map (·.size) = some (operC kb nb wb).size) := Lib.hid oper_info
  go_upto_region 11 with (refine wpList_store_at rfl 52 _ _ rfl b7 13 (operC kb nb wb) rfl (by rfl) 54 (instC r.op 0 r.cond ka na wa 0 0 0 0 0 0) Y10.out.ins HJ10.out (show 13 + 10 ≤ 33 from by decide) HO10.out ?_)
  rw [inst_b]
  have Z10 := Lib.hid (Y10.out.setI (instC r.op 0 r.cond ka na wa kb nb wb 0 0 0))
  clear Y10 HO10 HJ10 HB
  generalize wB.setRow b7 (instC r.op 0 r.cond ka na wa kb nb wb 0 0 0) = wBB at *
  obtain ⟨-, hr11⟩ := Z10.out.cells
  have q2 := hr11 2
  have q3 := hr11 3
  have q4 := hr11 4
  have q5 := hr11 5
  have q6 := hr11 6
  have q7 := hr11 7
  simp only [List.getElem?_toArray, List.getElem?_cons_succ, List.getElem?_cons_zero] at q2 q3 q4 q5 q6 q7
  clear hr11
  go_wp2_with fail
  clear q2 q3 q4 q5 q6 q7
  refine (HC.out rb _ Z10.out.dat).mono ?_
  rintro e wC ⟨rfl, hb11⟩
  have Y11 := Lib.hid (Z10.out.below hb11)
  clear hb11 Z10
  have HO11 := Lib.hid (oper_one kc nc wc)
  have HJ11 : Hid ((Tryz.prog.info? 52).map (·.size) = some (operC kc nc wc).size) := Lib.hid oper_info
  go_upto_region 12 with (refine wpList_store_at rfl 52 _ _ rfl b7 23 (operC kc nc wc) rfl (by rfl) 54 (instC r.op 0 r.cond ka na wa kb nb wb 0 0 0) Y11.out.ins HJ11.out (show 23 + 10 ≤ 33 from by decide) HO11.out ?_)
  rw [inst_c]
  have Z11 := Lib.hid (Y11.out.setI (instC r.op 0 r.cond ka na wa kb nb wb kc nc wc))
  clear Y11 HO11 HJ11 HC
  generalize wC.setRow b7 (instC r.op 0 r.cond ka na wa kb nb wb kc nc wc) = wCC at *
  have hl1 := Z11.out.cells.1 1
  have hl2 : wCC.cell? ⟨b7, 1, none⟩ = some (.int .i64 0) := by rw [cell_of_row _ _ 1 _ _ _ Z11.out.ins]; rfl
  have hl3 : wCC.frozen? ⟨b7, 1, none⟩ = false := frozen_of_row _ _ _ _ _ Z11.out.ins
  replace hl1 : wCC.cell? ⟨rb, 1, none⟩ = some (.int .i64 (d2.pos : Int)) := hl1
  go_upto_region 13 with fail
  clear hl1 hl2 hl3
  rw [setCell_eq_setRow wCC b7 1 _ _ _ _ Z11.out.ins, inst_s]
  have Z12 := Lib.hid (Z11.out.setI (instC r.op d2.pos r.cond ka na wa kb nb wb kc nc wc))
  clear Z11
  generalize wCC.setRow b7 (instC r.op d2.pos r.cond ka na wa kb nb wb kc nc wc) = wD at *
  have hl1 := Z12.out.cells.1 2
  replace hl1 : wD.cell? ⟨rb, 2, none⟩ = some (.bool d2.short) := hl1
  rw [hs] at hl1
  have HI2 : Hid ((Tryz.prog.info? 54).map (·.size) = some (instC r.op d2.pos r.cond ka na wa kb nb wb kc nc wc).size) := Lib.hid inst_info
  have HO2 := Lib.hid (inst_one (r.op : Int) (d2.pos : Int) (r.cond : Int) ka na wa kb nb wb kc nc wc)
  go_wp2_with (first
    | (refine wpList_load_row rfl 54 _ rfl b7 rfl 54 (instC r.op d2.pos r.cond ka na wa kb nb wb kc nc wc) (0, 0) _ Z12.out.ins Tryz.underlying54 rfl HI2.out ?_)
    | (refine wpList_store_row rfl 54 _ _ rfl w.heap.size (instC r.op d2.pos r.cond ka na wa kb nb wb kc nc wc) rfl (by rfl) 54 _ Z12.out.z HI2.out (by rfl) HO2.out ?_))
  refine bodyPost_ret_by (results_cellT Tryz.results24 _ _ w.heap.size 54 (instC r.op d2.pos r.cond ka na wa kb nb wb kc nc wc) (0, 0) _ rfl (setRow_heap _ _ _ _ _ _ Z12.out.z) Tryz.underlying54 rfl HI2.out) (by rfl) ?_
  exact ⟨rfl, below_setRow Z12.out.bel (Nat.le_refl _) _⟩
end Go.Proofs.YtmnjkaimpejohaaGreatDoor
