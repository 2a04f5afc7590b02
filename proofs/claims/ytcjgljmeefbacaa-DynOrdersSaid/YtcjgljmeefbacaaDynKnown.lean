/- Layer 5: is a tag one that has a meaning? -/
import Derived.Test.YtcjgljmeefbacaaDynF
import Derived.WalkMore
namespace Go.Proofs.Ytcjgljmeefbacaa
open Go.RowKit
set_option linter.unusedVariables false
set_option linter.unusedSimpArgs false

theorem knF_true {t : Nat} (h : (t = 20 ∨ t = 22 ∨ t = 23 ∨ t = 24 ∨ t = 1879047925 ∨ t = 1879048176 ∨ (1 ≤ t ∧ t ≤ 16) ∨ (25 ≤ t ∧ t ≤ 30) ∨ (35 ≤ t ∧ t ≤ 37) ∨ (1879048187 ≤ t ∧ t ≤ 1879048191))) : knF t = true := decide_eq_true h
theorem knF_false {t : Nat} (h : ¬ (t = 20 ∨ t = 22 ∨ t = 23 ∨ t = 24 ∨ t = 1879047925 ∨ t = 1879048176 ∨ (1 ≤ t ∧ t ≤ 16) ∨ (25 ≤ t ∧ t ≤ 30) ∨ (35 ≤ t ∧ t ≤ 37) ∨ (1879048187 ≤ t ∧ t ≤ 1879048191))) : knF t = false := decide_eq_false h

set_option maxRecDepth 100000 in
set_option maxHeartbeats 4000000 in
theorem known_any (t : Nat) (w : World) :
    Calls Try.prog 20 #[.int .u64 (t : Int)] w fun e w' => e = .returned (.bool (knF t)) ∧ w = w' := by
  obtain ⟨r, hr⟩ : ∃ r, knF t = r := ⟨_, rfl⟩
  rw [hr]
  have HR := Lib.hid hr
  clear hr
  by_cases hs : t = 20 ∨ t = 22 ∨ t = 23 ∨ t = 24 ∨ t = 1879047925 ∨ t = 1879048176
  · have e : r = true := by rw [← HR.out]; exact knF_true (by omega)
    subst e
    clear HR
    rcases hs with rfl | rfl | rfl | rfl | rfl | rfl <;>
    · go_enter Try.func20, Try.ntmps20
      go_wp2
      go_ret
      exact ⟨rfl, rfl⟩
  · obtain ⟨x, hx⟩ : ∃ x : Int, (t : Int) = x := ⟨_, rfl⟩
    have n0 : ¬ x = 20 := by omega
    have n1 : ¬ x = 22 := by omega
    have n2 : ¬ x = 23 := by omega
    have n3 : ¬ x = 24 := by omega
    have n4 : ¬ x = 1879047925 := by omega
    have n5 : ¬ x = 1879048176 := by omega
    rw [hx]
    have hall : (t = 0) ∨ (1 ≤ t ∧ t ≤ 16) ∨ (17 ≤ t ∧ t ≤ 24) ∨ (25 ≤ t ∧ t ≤ 30) ∨ (31 ≤ t ∧ t ≤ 34) ∨ (35 ≤ t ∧ t ≤ 37) ∨ (38 ≤ t ∧ t ≤ 1879048186) ∨ (1879048187 ≤ t ∧ t ≤ 1879048191) ∨ (1879048192 ≤ t) := by omega
    rcases hall with hc | hc | hc | hc | hc | hc | hc | hc | hc
    · have e : r = false := by rw [← HR.out]; exact knF_false (by omega)
      subst e
      have g0 : decide (x ≥ 1) = false := decide_eq_false (by omega)
      have g1 : decide (x ≥ 25) = false := decide_eq_false (by omega)
      have g2 : decide (x ≥ 35) = false := decide_eq_false (by omega)
      have g3 : decide (x ≥ 1879048187) = false := decide_eq_false (by omega)
      have l0 : decide (x ≤ 16) = true := decide_eq_true (by omega)
      have l1 : decide (x ≤ 30) = true := decide_eq_true (by omega)
      have l2 : decide (x ≤ 37) = true := decide_eq_true (by omega)
      have l3 : decide (x ≤ 1879048191) = true := decide_eq_true (by omega)
      clear HR hs hc hx
      go_enter Try.func20, Try.ntmps20
      go_wp2
      go_ret
      exact ⟨rfl, rfl⟩
    · have e : r = true := by rw [← HR.out]; exact knF_true (by omega)
      subst e
      have g0 : decide (x ≥ 1) = true := decide_eq_true (by omega)
      have g1 : decide (x ≥ 25) = false := decide_eq_false (by omega)
      have g2 : decide (x ≥ 35) = false := decide_eq_false (by omega)
      have g3 : decide (x ≥ 1879048187) = false := decide_eq_false (by omega)
      have l0 : decide (x ≤ 16) = true := decide_eq_true (by omega)
      have l1 : decide (x ≤ 30) = true := decide_eq_true (by omega)
      have l2 : decide (x ≤ 37) = true := decide_eq_true (by omega)
      have l3 : decide (x ≤ 1879048191) = true := decide_eq_true (by omega)
      clear HR hs hc hx
      go_enter Try.func20, Try.ntmps20
      go_wp2
      go_ret
      exact ⟨rfl, rfl⟩
    · have e : r = false := by rw [← HR.out]; exact knF_false (by omega)
      subst e
      have g0 : decide (x ≥ 1) = true := decide_eq_true (by omega)
      have g1 : decide (x ≥ 25) = false := decide_eq_false (by omega)
      have g2 : decide (x ≥ 35) = false := decide_eq_false (by omega)
      have g3 : decide (x ≥ 1879048187) = false := decide_eq_false (by omega)
      have l0 : decide (x ≤ 16) = false := decide_eq_false (by omega)
      have l1 : decide (x ≤ 30) = true := decide_eq_true (by omega)
      have l2 : decide (x ≤ 37) = true := decide_eq_true (by omega)
      have l3 : decide (x ≤ 1879048191) = true := decide_eq_true (by omega)
      clear HR hs hc hx
      go_enter Try.func20, Try.ntmps20
      go_wp2
      go_ret
      exact ⟨rfl, rfl⟩
    · have e : r = true := by rw [← HR.out]; exact knF_true (by omega)
      subst e
      have g0 : decide (x ≥ 1) = true := decide_eq_true (by omega)
      have g1 : decide (x ≥ 25) = true := decide_eq_true (by omega)
      have g2 : decide (x ≥ 35) = false := decide_eq_false (by omega)
      have g3 : decide (x ≥ 1879048187) = false := decide_eq_false (by omega)
      have l0 : decide (x ≤ 16) = false := decide_eq_false (by omega)
      have l1 : decide (x ≤ 30) = true := decide_eq_true (by omega)
      have l2 : decide (x ≤ 37) = true := decide_eq_true (by omega)
      have l3 : decide (x ≤ 1879048191) = true := decide_eq_true (by omega)
      clear HR hs hc hx
      go_enter Try.func20, Try.ntmps20
      go_wp2
      go_ret
      exact ⟨rfl, rfl⟩
    · have e : r = false := by rw [← HR.out]; exact knF_false (by omega)
      subst e
      have g0 : decide (x ≥ 1) = true := decide_eq_true (by omega)
      have g1 : decide (x ≥ 25) = true := decide_eq_true (by omega)
      have g2 : decide (x ≥ 35) = false := decide_eq_false (by omega)
      have g3 : decide (x ≥ 1879048187) = false := decide_eq_false (by omega)
      have l0 : decide (x ≤ 16) = false := decide_eq_false (by omega)
      have l1 : decide (x ≤ 30) = false := decide_eq_false (by omega)
      have l2 : decide (x ≤ 37) = true := decide_eq_true (by omega)
      have l3 : decide (x ≤ 1879048191) = true := decide_eq_true (by omega)
      clear HR hs hc hx
      go_enter Try.func20, Try.ntmps20
      go_wp2
      go_ret
      exact ⟨rfl, rfl⟩
    · have e : r = true := by rw [← HR.out]; exact knF_true (by omega)
      subst e
      have g0 : decide (x ≥ 1) = true := decide_eq_true (by omega)
      have g1 : decide (x ≥ 25) = true := decide_eq_true (by omega)
      have g2 : decide (x ≥ 35) = true := decide_eq_true (by omega)
      have g3 : decide (x ≥ 1879048187) = false := decide_eq_false (by omega)
      have l0 : decide (x ≤ 16) = false := decide_eq_false (by omega)
      have l1 : decide (x ≤ 30) = false := decide_eq_false (by omega)
      have l2 : decide (x ≤ 37) = true := decide_eq_true (by omega)
      have l3 : decide (x ≤ 1879048191) = true := decide_eq_true (by omega)
      clear HR hs hc hx
      go_enter Try.func20, Try.ntmps20
      go_wp2
      go_ret
      exact ⟨rfl, rfl⟩
    · have e : r = false := by rw [← HR.out]; exact knF_false (by omega)
      subst e
      have g0 : decide (x ≥ 1) = true := decide_eq_true (by omega)
      have g1 : decide (x ≥ 25) = true := decide_eq_true (by omega)
      have g2 : decide (x ≥ 35) = true := decide_eq_true (by omega)
      have g3 : decide (x ≥ 1879048187) = false := decide_eq_false (by omega)
      have l0 : decide (x ≤ 16) = false := decide_eq_false (by omega)
      have l1 : decide (x ≤ 30) = false := decide_eq_false (by omega)
      have l2 : decide (x ≤ 37) = false := decide_eq_false (by omega)
      have l3 : decide (x ≤ 1879048191) = true := decide_eq_true (by omega)
      clear HR hs hc hx
      go_enter Try.func20, Try.ntmps20
      go_wp2
      go_ret
      exact ⟨rfl, rfl⟩
    · have e : r = true := by rw [← HR.out]; exact knF_true (by omega)
      subst e
      have g0 : decide (x ≥ 1) = true := decide_eq_true (by omega)
      have g1 : decide (x ≥ 25) = true := decide_eq_true (by omega)
      have g2 : decide (x ≥ 35) = true := decide_eq_true (by omega)
      have g3 : decide (x ≥ 1879048187) = true := decide_eq_true (by omega)
      have l0 : decide (x ≤ 16) = false := decide_eq_false (by omega)
      have l1 : decide (x ≤ 30) = false := decide_eq_false (by omega)
      have l2 : decide (x ≤ 37) = false := decide_eq_false (by omega)
      have l3 : decide (x ≤ 1879048191) = true := decide_eq_true (by omega)
      clear HR hs hc hx
      go_enter Try.func20, Try.ntmps20
      go_wp2
      go_ret
      exact ⟨rfl, rfl⟩
    · have e : r = false := by rw [← HR.out]; exact knF_false (by omega)
      subst e
      have g0 : decide (x ≥ 1) = true := decide_eq_true (by omega)
      have g1 : decide (x ≥ 25) = true := decide_eq_true (by omega)
      have g2 : decide (x ≥ 35) = true := decide_eq_true (by omega)
      have g3 : decide (x ≥ 1879048187) = true := decide_eq_true (by omega)
      have l0 : decide (x ≤ 16) = false := decide_eq_false (by omega)
      have l1 : decide (x ≤ 30) = false := decide_eq_false (by omega)
      have l2 : decide (x ≤ 37) = false := decide_eq_false (by omega)
      have l3 : decide (x ≤ 1879048191) = false := decide_eq_false (by omega)
      clear HR hs hc hx
      go_enter Try.func20, Try.ntmps20
      go_wp2
      go_ret
      exact ⟨rfl, rfl⟩
end Go.Proofs.Ytcjgljmeefbacaa
