/- Layer 8, VersMade: its walk, as the frame calls it. -/
import Derived.Test.YtikpkblemegggaaMadeWa
import Derived.Test.YtikpkblemegggaaMadeWb
import Derived.Test.YtikpkblemegggaaMadeWc
import Derived.Test.YtikpkblemegggaaMadeWd
import Derived.Test.YtikpkblemegggaaOpenTexts
namespace Go.Proofs.Ytikpkblemegggaa
open Go.RowKit
set_option linter.unusedVariables false
set_option linter.unusedSimpArgs false

set_option maxRecDepth 100000 in
set_option maxHeartbeats 16000000 in
theorem made_any (a0 : Option Addr) (cap0 : Nat) (D : List ByteArray) (file : ByteArray) (a2 : Option Addr) (cap2 : Nat) (N : List ByteArray) (a3 : Option Addr) (cap3 : Nat) (P : List Int) (w : World)
    (h0 : TRow w a0 D) (n0 : a0 = none → D.length = 0 ∧ cap0 = 0) (s0 : ∀ t ∈ D, t.size ≤ 140737488351232) (l0 : D.length ≤ 140737488351232) (s1 : file.size ≤ 140737488351232) (h2 : TRow w a2 N) (n2 : a2 = none → N.length = 0 ∧ cap2 = 0) (s2 : ∀ t ∈ N, t.size ≤ 140737488351232) (l2 : N.length ≤ 140737488351232)
    (h3 : Row .i64 w a3 P) (l3 : P.length ≤ 140737488351232) (p3 : ∀ x ∈ P, -9223372036854775808 ≤ x ∧ x < 9223372036854775808) :
    Calls Try.prog 5 #[.slice a0 D.length cap0, .string file, .slice a2 N.length cap2, .slice a3 P.length cap3] w fun e w' => e = .returned (.bool true) ∧ Below w.heap.size w w' := by
  by_cases hs : 20 < D.length ∨ 20 < N.length ∨ 60 < P.length
  · have HUP := Lib.hid (fun w1 => vup_true w1)
    generalize D.length = n at *
    generalize N.length = m at *
    generalize P.length = p at *
    clear h0 n0 s0 s1 h2 n2 s2 h3 p3
    have hs2 : (20 : Int) < (n : Int) ∨ (¬ (20 : Int) < (n : Int) ∧ (20 : Int) < (m : Int)) ∨ (¬ (20 : Int) < (n : Int) ∧ ¬ (20 : Int) < (m : Int) ∧ (60 : Int) < (p : Int)) := by omega
    clear hs
    rcases hs2 with q1 | ⟨q1, q2⟩ | ⟨q1, q2, q3⟩
    all_goals
      go_enter Try.func5, Try.ntmps5
      go_wp2_with fail
      refine (HUP.out _).mono ?_
      rintro e w1 ⟨rfl, hb1⟩
      go_wp2_with fail
      go_ret
      exact ⟨rfl, hb1⟩
  · have k1 : D.length ≤ 20 := by omega
    have k2 : N.length ≤ 20 := by omega
    have k3 : P.length ≤ 60 := by omega
    rcases Nat.eq_zero_or_pos D.length with e1 | e1
    · rcases Nat.eq_zero_or_pos N.length with e2 | e2
      · exact made_a a0 cap0 D file a2 cap2 N a3 cap3 P w h0 n0 s0 l0 s1 h2 n2 s2 l2 h3 l3 p3 k1 k2 k3 e1.symm e2.symm
      · exact made_b a0 cap0 D file a2 cap2 N a3 cap3 P w h0 n0 s0 l0 s1 h2 n2 s2 l2 h3 l3 p3 k1 k2 k3 e1.symm e2
    · rcases Nat.eq_zero_or_pos N.length with e2 | e2
      · exact made_c a0 cap0 D file a2 cap2 N a3 cap3 P w h0 n0 s0 l0 s1 h2 n2 s2 l2 h3 l3 p3 k1 k2 k3 e1 e2.symm
      · exact made_d a0 cap0 D file a2 cap2 N a3 cap3 P w h0 n0 s0 l0 s1 h2 n2 s2 l2 h3 l3 p3 k1 k2 k3 e1 e2

theorem walk_VersMade (a0 : Option Addr) (cap0 : Nat) (T0 : List ByteArray) (a1 : ByteArray) (a2 : Option Addr) (cap2 : Nat) (T2 : List ByteArray) (a3 : Option Addr) (len3 cap3 : Nat) (z3 : List Int) (w : World)
    (w0 : TRow w a0 T0) (n0 : a0 = none → T0.length = 0 ∧ cap0 = 0) (s0 : ∀ t ∈ T0, t.size ≤ 140737488351232) (l0 : T0.length ≤ 140737488351232) (w1 : a1.size ≤ maxLen) (s1 : a1.size ≤ 140737488351232) (w2 : TRow w a2 T2) (n2 : a2 = none → T2.length = 0 ∧ cap2 = 0) (s2 : ∀ t ∈ T2, t.size ≤ 140737488351232) (l2 : T2.length ≤ 140737488351232)
    (w3 : IsRow .i64 w a3 len3 cap3 z3) (s3 : cap3 * 8 ≤ 140737488351232) :
    Calls Try.prog 5 #[.slice a0 T0.length cap0, .string a1, .slice a2 T2.length cap2, .slice a3 len3 cap3] w fun e w' => e = .returned (.bool true) ∧ Below w.heap.size w w' := by
  obtain ⟨xs, h1, h2, h3, h4, -, -⟩ := w3.row
  subst h1
  exact made_any a0 cap0 T0 a1 a2 cap2 T2 a3 cap3 xs w w0 n0 s0 l0 s1 w2 n2 s2 l2 h2 (by omega) (fun x hx => by have := bounds_i64 (h3 x hx); omega)
end Go.Proofs.Ytikpkblemegggaa
