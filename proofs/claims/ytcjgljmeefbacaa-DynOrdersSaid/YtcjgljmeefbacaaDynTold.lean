/- Layer 5: what a section tells: is a tag there? -/
import Derived.Test.YtcjgljmeefbacaaDynF
import Derived.Test.YtcjgljmeefbacaaUMap
import Derived.WalkMore
import Derived.Carry
namespace Go.Proofs.Ytcjgljmeefbacaa
open Go.RowKit
set_option linter.unusedVariables false
set_option linter.unusedSimpArgs false

theorem u64_zeroT (w : World) : (zeroValue 26).run Try.prog w = .ok (.int .u64 0) w := by kernel_rfl

set_option maxRecDepth 100000 in
set_option maxHeartbeats 4000000 in
theorem has_any (b gm c : Nat) (m : Nat → Option Nat) (t : Nat) (w : World) (hb : w.cell? ⟨b, 0, none⟩ = some (.map (some gm))) (h : UM w Try.prog 26 gm m c) (ht : t < 18446744073709551616) :
    Calls Try.prog 21 #[.int .u64 (t : Int), .pointer (some ⟨b, 0, none⟩)] w fun e w' => e = .returned (.bool (m t).isSome) ∧ w' = w := by
  have hl0 := h.look_ok (T := 53) (E := 26) Try.underlying26 Try.underlying53 (u64_zeroT w) (k := t) ht
  obtain ⟨r, hr⟩ : ∃ r, (m t).isSome = r := ⟨_, rfl⟩
  obtain ⟨old, hold⟩ : ∃ old, (m t).getD 0 = old := ⟨_, rfl⟩
  rw [hr, hold] at hl0
  rw [hr]
  clear hr hold h ht
  go_enter Try.func21, Try.ntmps21
  go_wp2_with fail
  go_ret
  exact ⟨rfl, rfl⟩

end Go.Proofs.Ytcjgljmeefbacaa
