/- Layer 2: a list of at most one number is sorted. -/
import Derived.Test.YtbppajfpjhmcgaaBase
import Derived.Lib.Tables
import Derived.WalkMore
import Derived.Deep.LoopGhost
namespace Go.Proofs.Ytbppajfpjhmcgaa
open Go.RowKit
set_option linter.unusedVariables false
set_option linter.unusedSimpArgs false

theorem blen_small (n : Nat) (hn : n < 256) (w : World) : Calls Try.prog 46 #[.int .u64 (n : Int)] w fun e w' => (∃ L, e = .returned (.int .i64 L)) ∧ w = w' := by
  have h0 : (0 : Int) ≤ (n : Int) := by omega
  have h1 : (n : Int) ≤ 255 := by omega
  have h2 : ¬ (4294967296 : Int) ≤ (n : Int) := by omega
  have h3 : ¬ (65536 : Int) ≤ (n : Int) := by omega
  have h4 : ¬ (256 : Int) ≤ (n : Int) := by omega
  have h5 : IntKind.u8.wrap (n : Int) = (n : Int) := by rw [IntKind.wrap_u8]; omega
  have H : Calls Try.prog 57 #[.int .u64 (n : Int)] w fun e w' => (∃ L, e = .returned (.int .i64 L)) ∧ w = w' := by
    clear hn
    go_enter Try.func57, Try.ntmps57
    go_wp2_with fail
    go_ret
    exact ⟨⟨_, rfl⟩, rfl⟩
  clear h0 h1 h2 h3 h4 h5 hn
  go_enter Try.func46, Try.ntmps46
  go_wp2_with (go_at_call 57; refine H.mono ?_; rintro e w' ⟨⟨L, rfl⟩, rfl⟩)
  go_ret
  exact ⟨⟨_, rfl⟩, rfl⟩

set_option maxRecDepth 100000 in
set_option maxHeartbeats 4000000 in
/-- a list of no number or of one is sorted already -/
theorem sort_few (a : Option Addr) (n cap : Nat) (hn : n ≤ 1) (w : World) : Calls Try.prog 42 #[.slice a n cap] w fun e w' => (∃ v, e = .returned v) ∧ w = w' := by
  have HI : ∀ wx : World, Calls Try.prog 47 #[.slice a n cap, .int .i64 0, .int .i64 (n : Int)] wx fun e w' => (∃ v, e = .returned v) ∧ wx = w' := fun wx => by
    have h1 : ¬ (1 : Int) < (n : Int) := by omega
    clear hn
    go_enter Try.func47, Try.ntmps47
    go_wp2_with fail
    go_loopg [6] 1 (fun g x wr => x = .int .i64 1 ∧ wx = wr)
    case atStart => exact ⟨rfl, rfl⟩
    case round =>
      obtain ⟨rfl, rfl⟩ := hrel
      go_wp2_with fail
      go_end0
      exact ⟨⟨_, rfl⟩, rfl⟩
  have HP : ∀ (wx : World) (L : Int), Calls Try.prog 45 #[.slice a n cap, .int .i64 0, .int .i64 (n : Int), .int .i64 L] wx fun e w' => (∃ v, e = .returned v) ∧ wx = w' := fun wx L => by
    have h1 : (n : Int) ≤ 12 := by omega
    have h2 : wrap64 (n : Int) = (n : Int) := IntWalk.wrap64_in _ ⟨by omega, by omega⟩
    have h3 : IntKind.i64.wrap (n : Int) = (n : Int) := IntWalk.i64_in _ ⟨by omega, by omega⟩
    have HI2 := Lib.hid (HI wx)
    clear hn HI
    go_enter Try.func45, Try.ntmps45
    go_wp2_with fail
    go_loopg [1, 2, 3, 8, 9] 1 (fun g x1 x2 x3 x8 x9 wr => x1 = .int .i64 0 ∧ x2 = .int .i64 (n : Int) ∧ wx = wr)
    case atStart => exact ⟨rfl, rfl, rfl⟩
    case round =>
      obtain ⟨rfl, rfl, rfl⟩ := hrel
      go_wp2_with fail
      refine HI2.out.mono ?_
      rintro e w' ⟨⟨v, rfl⟩, rfl⟩
      go_wp2_with fail
      refine bodyPost_ret (results_none rfl _ _ _) rfl ?_
      exact ⟨⟨_, rfl⟩, rfl⟩
  have HL := Lib.hid (blen_small n (by omega) w)
  have h1 : IntKind.u64.wrap (n : Int) = (n : Int) := by rw [IntKind.wrap_u64]; omega
  have HP2 := Lib.hid (HP w)
  clear hn HI HP
  go_enter Try.func42, Try.ntmps42
  go_wp2_with (go_at_call 46; refine HL.out.mono ?_; rintro e w' ⟨⟨L, rfl⟩, rfl⟩)
  refine (HP2.out L).mono ?_
  rintro e w' ⟨⟨v, rfl⟩, rfl⟩
  go_wp2_with fail
  go_end0
  exact ⟨⟨_, rfl⟩, rfl⟩
end Go.Proofs.Ytbppajfpjhmcgaa
