/- shacklelaw00.Is of a Spot: it is one, at its place, with its Code. -/
import Derived.Test.YtmjfkcclhbpclaaDoorAsSpot
namespace Go.Proofs.YtmjfkcclhbpclaaDoor
open Go.RowKit
set_option linter.unusedVariables false
set_option linter.unusedSimpArgs false

/-- what the program's own variable of package errors holds -/
def ErrType (w : World) : Prop := w.cell? ⟨1, 0, none⟩ = some (.iface 142 (.agg #[.pointer (some ⟨3, 29, none⟩)]))
theorem ErrType.lt {w : World} (h : ErrType w) : 1 < w.heap.size := by simpa using World.block_lt_of_cell? w _ h
theorem ErrType.below {w w' : World} (h : ErrType w) (hb : Below w.heap.size w w') : ErrType w' := by
  unfold ErrType
  rw [hb.cell (p := ⟨1, 0, none⟩) h.lt]
  exact h

set_option maxHeartbeats 2000000 in
theorem is_spot (b : Nat) (at_ n : Int) (w : World) (hg : ErrType w) (h0 : w.cell? ⟨b, 0, none⟩ = some (.int .u64 at_)) (h1 : w.cell? ⟨b, 1, none⟩ = some (.iface 38 (.int .i64 n))) :
    Calls Tryd.prog 18 #[.iface 90 (.pointer (some ⟨b, 0, none⟩)), .int .u64 at_, .int .i64 n] w fun e w' => e = .returned (.bool true) ∧ Below w.heap.size w w' := by
  have hbl : b < w.heap.size := by simpa using World.block_lt_of_cell? w _ h0
  have hlt := hg.lt
  have hgA : (w.alloc (.cells #[.pointer none] 90)).cell? ⟨1, 0, none⟩ = some (.iface 142 (.agg #[.pointer (some ⟨3, 29, none⟩)])) := by
    rw [World.cell?_alloc_lt _ _ ⟨1, 0, none⟩ hlt]; exact hg
  have htA : (w.alloc (.cells #[.pointer none] 90)).cell? ⟨w.heap.size, 0, none⟩ = some (.pointer none) := by simp
  have hfA : (w.alloc (.cells #[.pointer none] 90)).frozen? ⟨w.heap.size, 0, none⟩ = false := by simp
  have has := Lib.hid (SpotAs.as_hit ⟨b, 0, none⟩ ⟨w.heap.size, 0, none⟩ (.pointer none) _ hgA htA hfA)
  have hne := SpotAs.neq_same ⟨b, 0, none⟩
  have hcode := run_eql_code n n
  have hbel : Below w.heap.size w (SpotAs.asW (w.alloc (.cells #[.pointer none] 90)) ⟨b, 0, none⟩ ⟨w.heap.size, 0, none⟩) := by
    unfold SpotAs.asW
    go_grown
  have hc0 : (SpotAs.asW (w.alloc (.cells #[.pointer none] 90)) ⟨b, 0, none⟩ ⟨w.heap.size, 0, none⟩).cell? ⟨w.heap.size, 0, none⟩ = some (.pointer (some ⟨b, 0, none⟩)) := by
    unfold SpotAs.asW
    apply World.cell?_setCell_same (u := .pointer none)
    rw [World.cell?_alloc_lt _ _ ⟨w.heap.size, 0, none⟩ (by simp; omega), World.cell?_alloc_lt _ _ ⟨w.heap.size, 0, none⟩ (by simp; omega), World.cell?_alloc_lt _ _ ⟨w.heap.size, 0, none⟩ (by simp; omega), World.cell?_alloc_lt _ _ ⟨w.heap.size, 0, none⟩ (by simp)]
    exact htA
  have hc1 := hbel.cell (p := ⟨b, 0, none⟩) hbl
  have hc2 := hbel.cell (p := ⟨b, 1, none⟩) hbl
  rw [h0] at hc1
  rw [h1] at hc2
  generalize hW : SpotAs.asW (w.alloc (.cells #[.pointer none] 90)) ⟨b, 0, none⟩ ⟨w.heap.size, 0, none⟩ = W at *
  clear hW
  have his := Lib.hid (SpotAs.is_code b 0 n W hc2)
  clear hgA htA hfA h0 h1 hg hlt
  go_enter Tryd.func18, Tryd.ntmps18
  go_wp2_with (first
    | (go_at_call 42; refine (Hid.out has).mono ?_; rintro e w' ⟨rfl, rfl⟩)
    | (go_at_call 43; refine (Hid.out his).mono ?_; rintro e w' ⟨rfl, rfl⟩))
  go_ret
  exact ⟨rfl, hbel⟩
end Go.Proofs.YtmjfkcclhbpclaaDoor
