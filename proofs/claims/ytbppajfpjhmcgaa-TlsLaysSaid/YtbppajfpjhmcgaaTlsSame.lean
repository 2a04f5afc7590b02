/- Are two slices of numbers alike? The contract of shackle/shackleref18.Same. -/
import Derived.Test.YtbppajfpjhmcgaaKit
import Derived.BigQuiet
import Derived.WalkSmall
namespace Go.Proofs.Ytbppajfpjhmcgaa
open Go.RowKit
set_option linter.unusedVariables false
set_option linter.unusedSimpArgs false

theorem same18_any (a b : Option Addr) (c d : Nat) (xs ys : List Int) (w : World) (ha : Row .u64 w a xs) (hb : Row .u64 w b ys) (hx : xs.length ≤ maxLen) (hy : ys.length ≤ maxLen) :
    Calls Try.prog 8 #[.slice a xs.length c, .slice b ys.length d] w fun e w' => e = .returned (.bool (xs == ys)) ∧ Below w.heap.size w w' := by
  unfold maxLen at hx hy
  have HA := Lib.hid ha; clear ha
  have HB := Lib.hid hb; clear hb
  by_cases hl : xs.length = ys.length
  · have HL := Lib.hid hl
    have h0 : ((xs.length : Int) != (ys.length : Int)) = false := by simp [hl]
    clear hl
    go_enter Try.func8, Try.ntmps8
    go_wp2
    go_loopw [5] (fun i wr => ∃ k : Nat, k ≤ xs.length ∧ i = .int .i64 k ∧ Hid (xs.take k = ys.take k) ∧ Hid (Below w.heap.size w wr)) (fun i _ => xs.length - (intOf i).toNat)
    case atStart => exact ⟨0, Nat.zero_le _, rfl, Lib.hid rfl, Lib.hid (Below.refl _ _)⟩
    case round =>
      obtain ⟨k, hk, rfl, heq, hdr⟩ := hrel
      by_cases hlt : k < xs.length
      · obtain ⟨b1, o1, rfl, hc1⟩ := HA.out k hlt
        obtain ⟨b2, o2, rfl, hc2⟩ := HB.out k (by have := HL.out; omega)
        have hly : k < ys.length := by have := HL.out; omega
        have hb1 : b1 < w.heap.size := by simpa using World.block_lt_of_cell? w _ hc1
        have hb2 : b2 < w.heap.size := by simpa using World.block_lt_of_cell? w _ hc2
        have g1 : wr.cell? ⟨b1, o1 + k, none⟩ = some (.int .u64 (xs.getD k 0)) := by rw [hdr.out.cell (p := ⟨b1, o1 + k, none⟩) hb1]; exact hc1
        have g2 : wr.cell? ⟨b2, o2 + k, none⟩ = some (.int .u64 (ys.getD k 0)) := by rw [hdr.out.cell (p := ⟨b2, o2 + k, none⟩) hb2]; exact hc2
        clear hc1 hc2
        by_cases hq : xs[k] = ys[k]
        · have hq2 : (xs[k] != ys[k]) = false := by simp [hq]
          have HQ := Lib.hid hq; clear hq
          go_wp2
          go_quiet (fail)
          go_wp2
          go_roundw
          case rel =>
            refine ⟨k + 1, by omega, by go_num, Lib.hid ?_, Lib.hid (below_drewN hdr.out _)⟩
            rw [List.take_succ_eq_append_getElem hlt, List.take_succ_eq_append_getElem hly, heq.out, HQ.out]
          case measure => simp [intOf]; omega
        · have hq2 : (xs[k] != ys[k]) = true := by simp [hq]
          have HQ := Lib.hid hq; clear hq
          go_wp2
          go_quiet (fail)
          go_wp2
          go_ret
          have h1 : (xs == ys) = false := by
            rw [beq_eq_false_iff_ne]
            intro e
            subst e
            exact HQ.out rfl
          rw [h1]
          exact ⟨rfl, below_drewN hdr.out _⟩
      · have hk' : k = xs.length := by omega
        have HK := Lib.hid hk'; clear hk'
        go_wp2
        go_ret
        have h1 : (xs == ys) = true := by
          rw [beq_iff_eq]
          have := heq.out
          rw [HK.out, List.take_length, HL.out, List.take_length] at this
          exact this
        rw [h1]
        exact ⟨rfl, hdr.out⟩
  · have h0 : ((xs.length : Int) != (ys.length : Int)) = true := by simp; omega
    have HL := Lib.hid hl
    clear hl
    go_enter Try.func8, Try.ntmps8
    go_wp2
    go_ret
    have h1 : (xs == ys) = false := by
      rw [beq_eq_false_iff_ne]
      intro e
      exact HL.out (by rw [e])
    rw [h1]
    exact ⟨rfl, Below.refl _ _⟩

/-- of two slices that are alike -/
theorem same18_eq (a b : Option Addr) (c d n m : Nat) (xs : List Int) (w : World) (hn : xs.length = n) (hm : xs.length = m) (ha : Row .u64 w a xs) (hb : Row .u64 w b xs) (hx : xs.length ≤ maxLen) :
    Calls Try.prog 8 #[.slice a n c, .slice b m d] w fun e w' => e = .returned (.bool true) ∧ Below w.heap.size w w' := by
  subst hn hm
  have := same18_any a b c d xs xs w ha hb hx hx
  rw [show (xs == xs) = true from by simp] at this
  exact this
end Go.Proofs.Ytbppajfpjhmcgaa
