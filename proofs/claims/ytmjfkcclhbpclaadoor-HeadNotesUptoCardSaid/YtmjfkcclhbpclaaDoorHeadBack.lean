/- Layer 4: program headers, the last one first, as an iterator tells them (slices.Backward). -/
import Derived.Test.YtmjfkcclhbpclaaDoorHeadIs
import Derived.RangeFuncNested
import Derived.RangeFuncBound
import Derived.RangeFuncCalls
import Derived.RangeFuncLeaves
import Derived.RangeFuncBox
import Derived.TacticsInMore
import Derived.LoopNIn
import Derived.LoopIn
import Derived.OwnWalkIn
import Derived.Shelf.Abstract
namespace Go.Proofs.YtmjfkcclhbpclaaDoor
open Go.RowKit
set_option linter.unusedVariables false
set_option linter.unusedSimpArgs false

attribute [local go_sem] Oper.semAt_some

def backE (x : Int × PT) : Array Value := #[.int .i64 x.1, .agg #[.int .u32 x.2.ty, .int .u32 x.2.flags, .int .u64 x.2.off, .int .u64 x.2.vaddr, .int .u64 x.2.filesz, .int .u64 x.2.memsz, .int .u64 x.2.align]]
/-- what has come when k rounds are over -/
def backL (ps : List PT) (k : Nat) : List (Int × PT) := (List.range k).map fun (j : Nat) => (((ps.length : Int) - 1 - (j : Int) : Int), ps.getD (ps.length - 1 - j) PT.zero)
theorem backL_succ (ps : List PT) (k : Nat) : backL ps (k + 1) = backL ps k ++ [(((ps.length : Int) - 1 - k), ps.getD (ps.length - 1 - k) PT.zero)] := by simp [backL, List.range_succ]
theorem backL_length (ps : List PT) (k : Nat) : (backL ps k).length = k := by simp [backL]

set_option maxRecDepth 100000 in
set_option maxHeartbeats 4000000 in
theorem back1_in (F : Fence) (m : Nat) (hf : F.fn 88) (hro : F.round = none) (hm : 1 ≤ m) (l Bs n0 b off n cap : Nat) (ps : List PT) (hn : ps.length = n) (hnl : n ≤ 140737488351232) (hb : b < n0) (J Jx : List (Int × PT) → World → Prop)
    (hY : ∀ pre x W, J pre W → pre.length < n → YieldAt F (m - 1) Tryd.prog l (backE x) W fun e W' =>
      (e = .returned (.bool true) ∧ J (pre ++ [x]) W' ∧ Below n0 W W') ∨ (e = .returned (.bool false) ∧ Jx (pre ++ [x]) W'))
    (W : World) (hBs : W.cell? ⟨Bs, 0, none⟩ = some (.slice (some ⟨b, off, none⟩) n cap)) (hBl : Bs < n0) (hc : ∀ i, (hi : i < ps.length) → ∀ j, j < 7 → W.cell? ⟨b, off + i * 7 + j, none⟩ = ps[i].cells[j]?) (h0 : J [] W) :
    CallsIn F m Tryd.prog 88 #[.func (.yield l) #[] #[], .pointer (some ⟨Bs, 0, none⟩)] W fun e W' => (∃ v, e = .returned v) ∧
      ((∃ ys, ys = backL ps n ∧ J ys W') ∨ (∃ pre, (∃ k, k ≤ n ∧ pre = backL ps k) ∧ Jx pre W')) := by
  have HC := Lib.hid hc
  have HNL := Lib.hid (And.intro hn hnl)
  have e1 : IntKind.i64.wrap ((n : Int) - 1) = (n : Int) - 1 := by rw [IntKind.wrap_i64]; omega
  clear hc
  refine callsIn_of_wp Tryd.func88 rfl hf ?_ hro
  simp only [Tryd.ntmps88, List.size_toArray, List.length_cons, List.length_nil, Nat.reduceAdd, Nat.reduceSub, Array.replicate_succ, Array.replicate_zero, List.push_toArray, List.append_toArray, List.nil_append, List.cons_append]
  gi_wp2
  gi_loopw [3] (fun i wr => ∃ k : Nat, k ≤ n ∧ i = .int .i64 ((n : Int) - 1 - k) ∧ J (backL ps k) wr ∧ Below n0 W wr)
    (fun i _ => (intOf i + 1).toNat)
  case atStart => exact ⟨0, Nat.zero_le _, by congr 1; omega, h0, Below.refl _ _⟩
  case round =>
    obtain ⟨k, hk, rfl, hJs, hnx⟩ := hrel
    by_cases hlt : k < n
    · obtain ⟨fn, tmps, assign, body, hy, hR⟩ := hY _ ((((ps.length : Int) - 1 - k), ps.getD (ps.length - 1 - k) PT.zero)) wr hJs (by rw [backL_length]; exact hlt)
      have hi : n - 1 - k < ps.length := by omega
      have hcx := fun j hj => (hnx.cell (p := ⟨b, off + (n - 1 - k) * 7 + j, none⟩) hb).trans (HC.out (n - 1 - k) hi j hj)
      have hp : ps.getD (ps.length - 1 - k) PT.zero = ps[n - 1 - k] := by simp only [hn]; simp [List.getD, hi]
      rw [hp, hn] at hy
      have HSU : Hid (∀ W3, J (backL ps k ++ [(((n : Int) - 1 - k), ps[n - 1 - k])]) W3 → J (backL ps (k + 1)) W3) := Lib.hid (fun W3 h => by rw [backL_succ, hp, hn]; exact h)
      have HSX : Hid (∀ W3, Jx (backL ps k ++ [(((n : Int) - 1 - k), ps[n - 1 - k])]) W3 → Jx (backL ps (k + 1)) W3) := Lib.hid (fun W3 h => by rw [backL_succ, hp, hn]; exact h)
      rw [hp, hn] at hR
      obtain ⟨i, hie⟩ : ∃ i : Nat, n - 1 - k = i := ⟨_, rfl⟩
      have hii : (n : Int) - 1 - k = (i : Int) := by omega
      have hs := (hnx.cell (p := ⟨Bs, 0, none⟩) hBl).trans hBs
      simp only [hie] at hcx hy hR HSU HSX
      rw [hii] at hy hR HSU HSX ⊢
      generalize ps[i] = p at *
      obtain ⟨a0, a1, a2, a3, a4, a5, a6⟩ := p
      have c0 := hcx 0 (by omega)
      have c1 := hcx 1 (by omega)
      have c2 := hcx 2 (by omega)
      have c3 := hcx 3 (by omega)
      have c4 := hcx 4 (by omega)
      have c5 := hcx 5 (by omega)
      have c6 := hcx 6 (by omega)
      simp only [PT.cells, List.getElem?_cons_zero, List.getElem?_cons_succ, Nat.add_zero] at c0 c1 c2 c3 c4 c5 c6
      have i0 : (0 : Int) ≤ (i : Int) := by omega
      have i1 : (i : Int) < (n : Int) := by omega
      have e2 : IntKind.i64.wrap ((i : Int) - 1) = (i : Int) - 1 := by rw [IntKind.wrap_i64]; omega
      have e3 : wrap64 ((i : Int) - 1) = (i : Int) - 1 := IntWalk.wrap64_in _ ⟨by omega, by omega⟩
      unfold backE at hy
      dsimp only at hy
      clear hcx hp HC hi
      gi_wp2
      refine hR.mono ?_
      rintro e W3 (⟨rfl, hJ3, hk3⟩ | ⟨rfl, hJx3⟩)
      · gi_wp2
        go_roundw
        case rel => exact ⟨k + 1, by omega, by first | rfl | (congr 1; omega) | (rw [e3]; congr 1; omega), HSU.out _ hJ3, hnx.trans hk3⟩
        case measure => (simp [intOf]; try omega)
      · gi_wp2
        refine bodyPost_ret (results_none rfl _ _ _) rfl ?_
        exact ⟨⟨_, rfl⟩, .inr ⟨_, ⟨k + 1, by omega, rfl⟩, HSX.out _ hJx3⟩⟩
    · obtain rfl : k = n := by omega
      have h1 : ¬ (0 : Int) ≤ (k : Int) - 1 - (k : Int) := by omega
      gi_wp2
      go_end0
      first | exact ⟨⟨_, rfl⟩, .inl hJs⟩ | exact ⟨⟨_, rfl⟩, .inl ⟨_, rfl, hJs⟩⟩
end Go.Proofs.YtmjfkcclhbpclaaDoor
