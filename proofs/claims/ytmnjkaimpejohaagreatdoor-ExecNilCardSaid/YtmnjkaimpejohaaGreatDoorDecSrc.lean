/- Layer 12: the bytes of an instruction, read one by one. -/
import Derived.Test.YtmnjkaimpejohaaGreatDoorNear
import Derived.Test.YtmnjkaimpejohaaGreatDoorLittle
import Derived.Test.YtmnjkaimpejohaaGreatDoorErrs
import Derived.BigRegion
import Derived.BigQuiet
namespace Go.Proofs.YtmnjkaimpejohaaGreatDoor
open Go.RowKit
set_option linter.unusedVariables false
set_option linter.unusedSimpArgs false

/-- what is read from, where it stands, what has been told -/
structure DS where
  ad : Option Addr
  n : Nat
  c : Nat
  pos : Nat
  short : Bool
  seg : Bool
  xt : Bool
  ext : Nat
  code : Nat
  form : Nat
def DS.cells (d : DS) : Array Value := #[.slice d.ad d.n d.c, .int .i64 (d.pos : Int), .bool d.short, .bool d.seg, .bool d.xt, .int .u8 (d.ext : Int), .int .u8 (d.code : Int), .int .u8 (d.form : Int)]
structure DAt (w : World) (rb : Nat) (d : DS) (bs : List Nat) : Prop where
  box : w.heap[rb]? = some (.cells d.cells 100)
  row : OwnI w 0 5 .u8 (.slice d.ad d.n d.c) (toI bs)
  byte : ∀ b ∈ bs, b < 256
  len : bs.length = d.n
  big : d.n ≤ 1048576
theorem DAt.lt {w : World} {rb : Nat} {d : DS} {bs : List Nat} (h : DAt w rb d bs) : rb < w.heap.size := lt_of_block h.box
theorem DAt.below {w w' : World} {rb : Nat} {d : DS} {bs : List Nat} (h : DAt w rb d bs) (hb : Below w.heap.size w w') : DAt w' rb d bs := ⟨(hb.block _ h.lt).trans h.box, h.row.below hb, h.byte, h.len, h.big⟩
/-- the byte at a place -/
theorem DAt.at_ {w : World} {rb : Nat} {d : DS} {bs : List Nat} (h : DAt w rb d bs) {k : Nat} (hk : k < d.n) : ∃ b o, d.ad = some ⟨b, o, none⟩ ∧ w.cell? ⟨b, o + k, none⟩ = some (.int .u8 ((bs.getD k 0 : Nat) : Int)) := by
  obtain ⟨b, o, e, hc⟩ := h.row.at.2.1 k (by rw [toI_length, h.len]; exact hk)
  refine ⟨b, o, e, ?_⟩
  rw [hc]
  simp [toI, List.getD, h.len, hk]
set_option maxRecDepth 100000 in
theorem peek_ok (rb : Nat) (d : DS) (bs : List Nat) (w : World) (h : DAt w rb d bs) (hk : d.pos < d.n) :
    Calls Tryz.prog 63 #[.pointer (some ⟨rb, 0, none⟩)] w fun e w' => e = .returned (.int .u8 ((bs.getD d.pos 0 : Nat) : Int)) ∧ Below w.heap.size w w' ∧ w'.heap.size = w.heap.size := by
  obtain ⟨b, o, e, hc⟩ := h.at_ hk
  have k0 : w.cell? ⟨rb, 0, none⟩ = some (.slice (some ⟨b, o, none⟩) d.n d.c) := by rw [cell_of_row _ _ 0 _ _ _ h.box, ← e]; rfl
  have k1 : w.cell? ⟨rb, 1, none⟩ = some (.int .i64 (d.pos : Int)) := by rw [cell_of_row _ _ 1 _ _ _ h.box]; rfl
  have t1 : decide ((d.n : Int) ≤ (d.pos : Int)) = false := by simp; omega
  have i1 : (0 : Int) ≤ (d.pos : Int) := by omega
  have i2 : (d.pos : Int) < (d.n : Int) := by omega
  generalize bs.getD d.pos 0 = x at *
  obtain ⟨pos, hpos⟩ : ∃ p, d.pos = p := ⟨_, rfl⟩
  obtain ⟨n, hn⟩ : ∃ p, d.n = p := ⟨_, rfl⟩
  obtain ⟨c, hcp⟩ : ∃ p, d.c = p := ⟨_, rfl⟩
  rw [hpos] at k1 hc t1 i1 i2
  rw [hn, hcp] at k0
  rw [hn] at t1 i2
  clear h hk e hpos hn hcp
  go_enter Tryz.func63, Tryz.ntmps63
  go_wp2_with fail
  go_quiet (fail)
  go_wp2_with fail
  go_quiet (fail)
  go_wp2_with fail
  go_ret
  exact ⟨rfl, below_drewN (below_drewN (Below.refl _ _) _) _, by simp⟩
end Go.Proofs.YtmnjkaimpejohaaGreatDoor
