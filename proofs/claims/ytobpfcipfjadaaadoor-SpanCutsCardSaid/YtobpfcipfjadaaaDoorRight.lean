/- Layer 1: shacklelaw01.right, of a Code and of a Spot. -/
import Derived.Test.YtobpfcipfjadaaaDoorRefPut
import Derived.Test.YtobpfcipfjadaaaDoorIsSpot
namespace Go.Proofs.YtobpfcipfjadaaaDoor
open Go.RowKit
set_option linter.unusedVariables false
set_option linter.unusedSimpArgs false

theorem right_code (c bad : Int) (at_ : Int) (w : World) (h0 : 0 ≤ c) (h : c ≤ 30) (h4 : (bad == 4) = false) (h29 : (bad == 29) = false) :
    Calls Tryd.prog 16 #[errV c, .int .i64 bad, .int .u64 at_] w fun e w' => e = .returned (.bool (c == bad)) ∧ w = w' := by
  have hc := Lib.hid (code_any c w h0 h)
  generalize errV c = v at *
  go_enter Tryd.func16, Tryd.ntmps16
  go_wp2_with (first
    | (go_at_call 29; refine (Hid.out hc).mono ?_; rintro e w' ⟨rfl, rfl⟩))
  go_ret
  exact ⟨rfl, rfl⟩

theorem right_spot (b : Nat) (at_ n : Int) (w : World) (hn : n = 4 ∨ n = 29) (hg : ErrType w) (h0 : w.cell? ⟨b, 0, none⟩ = some (.int .u64 at_)) (h1 : w.cell? ⟨b, 1, none⟩ = some (.iface 34 (.int .i64 n))) :
    Calls Tryd.prog 16 #[.iface 52 (.pointer (some ⟨b, 0, none⟩)), .int .i64 n, .int .u64 at_] w fun e w' => e = .returned (.bool true) ∧ Below w.heap.size w w' := by
  have his := Lib.hid (is_spot b at_ n w hg h0 h1)
  clear hg h0 h1
  rcases hn with rfl | rfl
  · go_enter Tryd.func16, Tryd.ntmps16
    go_wp2_with (first
      | (go_at_call 11; refine (Hid.out his).mono ?_; rintro e w' ⟨rfl, hb⟩))
    go_ret
    exact ⟨rfl, hb⟩
  · go_enter Tryd.func16, Tryd.ntmps16
    go_wp2_with (first
      | (go_at_call 11; refine (Hid.out his).mono ?_; rintro e w' ⟨rfl, hb⟩))
    go_ret
    exact ⟨rfl, hb⟩
end Go.Proofs.YtobpfcipfjadaaaDoor
