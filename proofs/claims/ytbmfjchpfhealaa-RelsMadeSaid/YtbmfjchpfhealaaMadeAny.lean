/- Layer 9, RelsMade: the walk, of whatever number of symbols. -/
import Derived.Test.YtbmfjchpfhealaaMadeW
namespace Go.Proofs.Ytbmfjchpfhealaa
open Go.RowKit
set_option linter.unusedVariables false
set_option linter.unusedSimpArgs false

set_option maxRecDepth 100000 in
set_option maxHeartbeats 4000000 in
theorem made_early (a : Option Addr) (cap L : Nat) (n : Int) (w : World) (hl : L ≤ maxLen) (h : (decide ((100 : Int) < (L : Int)) = true) ∨ (decide ((100 : Int) < (L : Int)) = false ∧ decide (n < 1) = true) ∨ (decide ((100 : Int) < (L : Int)) = false ∧ decide (n < 1) = false ∧ decide ((1000 : Int) < n) = true)) :
    Calls Try.prog 5 #[.slice a L cap, .int .i64 n] w fun e w' => e = .returned (.bool true) ∧ Below w.heap.size w w' := by
  have hu := Lib.hid (up_true w)
  rcases h with g1 | ⟨g1, g2⟩ | ⟨g1, g2, g3⟩
  all_goals
    go_enter Try.func5, Try.ntmps5
    go_wp2_with fail
    refine (Hid.out hu).mono ?_
    rintro e w1 ⟨rfl, hb1⟩
    have B1 := Lib.hid hb1
    clear hu hb1
    go_wp2
    go_ret
    exact ⟨rfl, B1.out⟩

theorem made_any (a : Option Addr) (cap : Nat) (rs : List RT) (n : Int) (w : World) (hr : RowS w 4 a (rs.map RT.cells)) (hcan : ∀ r ∈ rs, r.can) (hl : rs.length ≤ maxLen) :
    Calls Try.prog 5 #[.slice a rs.length cap, .int .i64 n] w fun e w' => e = .returned (.bool true) ∧ Below w.heap.size w w' := by
  by_cases h1 : 100 < rs.length
  · exact made_early a cap rs.length n w hl (.inl (by simp; omega))
  · by_cases h2 : n < 1
    · exact made_early a cap rs.length n w hl (.inr (.inl ⟨by simp; omega, by simp; omega⟩))
    · by_cases h3 : 1000 < n
      · exact made_early a cap rs.length n w hl (.inr (.inr ⟨by simp; omega, by simp; omega, by simp; omega⟩))
      · obtain ⟨N, rfl⟩ : ∃ N : Nat, n = N := ⟨n.toNat, by omega⟩
        exact made_run a cap rs rs.length rfl N w hr hcan (by omega) (by omega) (by omega)
end Go.Proofs.Ytbmfjchpfhealaa
