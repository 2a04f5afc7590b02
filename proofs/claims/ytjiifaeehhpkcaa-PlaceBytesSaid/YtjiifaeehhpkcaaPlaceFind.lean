/- Layer 2: a place in an empty memory, wherever it is looked for. -/
import Derived.Test.YtjiifaeehhpkcaaVmFindS
namespace Go.Proofs.Ytjiifaeehhpkcaa
open Go.RowKit
set_option linter.unusedVariables false
set_option linter.unusedSimpArgs false

def findE (n a : Nat) : Option Nat := if a < 140737488355328 ∧ belowF (fromF a) n = true then some (fromF a) else none
def findEV : Option Nat → Value
  | some at_ => .tuple #[.int .u64 (at_ : Int), .nilIface]
  | none => .tuple #[.int .u64 0, errV 7]
theorem fromF_low (a : Nat) : fromF a % 4096 = 0 ∧ 4096 ≤ fromF a := by unfold fromF; omega
theorem findE_some {n a t : Nat} (h : findE n a = some t) : t % 4096 = 0 ∧ 4096 ≤ t ∧ t < 140737488355328 ∧ t / 4096 + n ≤ 34359738368 := by
  unfold findE at h
  by_cases hc : a < 140737488355328 ∧ belowF (fromF a) n = true
  · rw [if_pos hc] at h
    obtain rfl := Option.some.inj h
    have h1 := fromF_low a
    have h2 := hc.2
    unfold belowF at h2
    have h3 := of_decide_eq_true h2
    omega
  · rw [if_neg hc] at h; cases h

set_option maxRecDepth 100000 in
set_option maxHeartbeats 8000000 in
theorem find_empty (mb : Nat) (S : Nat → Prop) (q : Nat) (g : Nat) (F : Nat → Option Nat) (a n : Nat) (w : World) (h : VmAt w mb S q 0 (fun _ => none) g F) (ha : a < 18446744073709551616) (hn1 : 1 ≤ n) (hn2 : n < 9223372036854775808) :
    Calls Try.prog 21 #[.pointer (some ⟨mb, 0, none⟩), .int .u64 (a : Int), .int .i64 (n : Int)] w fun e w' => e = .returned (findEV (findE n a)) ∧ Below w.heap.size w w' := by
  by_cases hlo : a < 140737488355328
  · refine (find_small mb S q 0 _ g F a n w h (by omega) hlo hn1 hn2).mono ?_
    rintro e w' ⟨xs, ⟨⟨-, -, hx⟩, -⟩, rfl, hb⟩
    obtain rfl : xs = [] := List.length_eq_zero_iff.1 (by omega)
    refine ⟨?_, hb⟩
    show Ending.returned (findV n (fromF a)) = _
    by_cases hb2 : belowF (fromF a) n = true
    · unfold findV findE
      rw [if_pos hb2, if_pos ⟨hlo, hb2⟩]
      rfl
    · unfold findV findE
      rw [if_neg hb2, if_neg (fun h => hb2 h.2)]
      rfl
  · have hfe : findEV (findE n a) = .tuple #[.int .u64 0, errV 7] := by unfold findE; rw [if_neg (fun h => hlo h.1)]; rfl
    rw [hfe]
    have HN := Lib.hid (numbers_small mb S q 0 (fun _ => none) g F)
    have H := Lib.hid h
    have hU := fun wx => up_any a 4096 wx ha (by omega)
    have hpop : Pop.pop 4096 = 1 := Pop.pop_pow ⟨12, by omega⟩
    have i1 : ¬ (n : Int) < 1 := by omega
    have i2 : (4096 : Int) ≤ (a : Int) := by omega
    have HNB := Lib.hid (And.intro hn1 hn2)
    by_cases hov : a + 4095 < 18446744073709551616
    · obtain ⟨u, hu⟩ : ∃ u, (a + 4095) / 4096 * 4096 = u := ⟨_, rfl⟩
      have hfr : upF a 4096 = (((u : Nat) : Int), 0) := by
        unfold upF
        rw [if_neg (by rw [hpop]; simp), if_pos (by omega), ← hu]
      rw [hfr] at hU
      replace hU : ∀ wx, Calls Try.prog 40 #[.int .u64 (a : Int), .int .u64 4096] wx fun e w' => e = .returned (.tuple #[.int .u64 ((u : Nat) : Int), .nilIface]) ∧ Below wx.heap.size wx w' := hU
      have HUP := Lib.hid hU
      have HUB : Hid (140737488355328 ≤ u ∧ u < 18446744073709551616) := Lib.hid (by omega)
      clear h hU hfr hpop hn1 hn2 ha hov hu hlo
      go_enter Try.func21, Try.ntmps21
      go_wp2_with fail
      refine (HUP.out w).mono ?_
      rintro e w1 ⟨rfl, hb1⟩
      have B1 := Lib.hid hb1
      have HNU := Lib.hid (HN.out w1 (H.out.below hb1) (by omega))
      clear hb1 HUP HN H
      go_wp2_with fail
      refine HNU.out.mono ?_
      rintro e w2 ⟨v, xs, rfl, hall, hrow, hb2⟩
      obtain rfl : xs = [] := List.length_eq_zero_iff.1 (by have := hall.1.2.2; omega)
      rw [enc_toI] at hrow
      have hown : OwnI w2 w1.heap.size 22 .u64 v (toI []) := by
        unfold OwnI
        rw [toI_length]
        exact hrow
      obtain ⟨ra, rc, rfl, hrw, -, -, -⟩ := hown.row
      rw [toI_length]
      have B2 := Lib.hid (bstep B1.out hb2)
      clear hall hrow hb2 hown hrw HNU
      have hbe := below_any u n w2 (by have := HUB.out; omega) (by have := HNB.out; omega)
      rw [show belowF u n = false from by unfold belowF; exact decide_eq_false (by have := HUB.out; omega)] at hbe
      have HBE := Lib.hid hbe
      have e9 : IntKind.u64.wrap (n : Int) = (n : Int) := by rw [IntKind.wrap_u64]; have := HNB.out; omega
      clear hbe
      go_wp2_with fail
      go_loopg [8, 28] 0 (fun f y x wr => y = .int .u64 (u : Int) ∧ x = .int .i64 0 ∧ w2 = wr)
      case atStart => exact ⟨rfl, rfl, rfl⟩
      case round =>
        obtain ⟨rfl, rfl, rfl⟩ := hrel
        go_wp2_with (go_at_call 41; refine HBE.out.mono ?_; rintro e w' ⟨rfl, rfl⟩)
        go_ret2
        exact ⟨rfl, B2.out⟩
    · have hfr : upF a 4096 = (0, 28) := by
        unfold upF
        rw [if_neg (by rw [hpop]; simp), if_neg (by omega)]
      rw [hfr] at hU
      replace hU : ∀ wx, Calls Try.prog 40 #[.int .u64 (a : Int), .int .u64 4096] wx fun e w' => e = .returned (.tuple #[.int .u64 0, .iface 51 (.int .i64 28)]) ∧ Below wx.heap.size wx w' := hU
      have HUP := Lib.hid hU
      clear h hU hfr hpop hn1 hn2 ha hov hlo HN H
      go_enter Try.func21, Try.ntmps21
      go_wp2_with fail
      refine (HUP.out w).mono ?_
      rintro e w1 ⟨rfl, hb1⟩
      have B1 := Lib.hid hb1
      clear hb1 HUP
      go_wp2_with fail
      go_ret2
      exact ⟨rfl, B1.out⟩
end Go.Proofs.Ytjiifaeehhpkcaa
