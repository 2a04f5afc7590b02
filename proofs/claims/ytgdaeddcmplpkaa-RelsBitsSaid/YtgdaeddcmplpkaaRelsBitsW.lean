/- Layer 9, the statement's own walk: an odd number behind an address. -/
import Derived.Test.YtgdaeddcmplpkaaRelsUp
namespace Go.Proofs.Ytgdaeddcmplpkaa
open Go.RowKit
set_option linter.unusedVariables false
set_option linter.unusedSimpArgs false

theorem bitsK_more (v nx k d : Nat) : ∃ rest, bitsK v nx (k + d) = bitsK v nx k ++ rest := by
  induction d with
  | zero => exact ⟨[], by simp⟩
  | succ d ih =>
    obtain ⟨r, hr⟩ := ih
    exact ⟨_, by rw [← Nat.add_assoc, bitsK_succ, hr, List.append_assoc]⟩
theorem bitsK_at {v nx k : Nat} (hk : k < 63) (h : v.testBit (k + 1) = true) : (bitsK v nx k).length < (bitsK v nx 63).length ∧ (bitsK v nx 63).getD (bitsK v nx k).length 0 = (nx + 8 * k) % 18446744073709551616 := by
  obtain ⟨r, hr⟩ := bitsK_more v nx (k + 1) (62 - k)
  rw [show k + 1 + (62 - k) = 63 from by omega, bitsK_yes h] at hr
  rw [hr]
  refine ⟨by simp, ?_⟩
  simp [List.getD]

theorem un_two (addr word : Nat) (h1 : addr % 2 = 0) (h2 : ¬ word % 2 = 0) : unF [addr, word] = (0, addr :: bitsK word ((addr + 8) % 18446744073709551616) 63) := by
  have hr : (unRun [addr, word]).1 = addr :: bitsK word ((addr + 8) % 18446744073709551616) 63 := by
    unfold unRun
    rw [List.foldl_cons, List.foldl_cons, List.foldl_nil, unStep, unStep, if_pos h1, if_neg h2]
    rfl
  rw [unF_yes]
  · rw [hr]
  · show ¬ addr % 2 = 1
    omega
  · rw [hr]
    have := bitsK_length word ((addr + 8) % 18446744073709551616) 63
    simp
    omega

set_option maxRecDepth 100000 in
set_option maxHeartbeats 4000000 in
theorem bits_at (addr word : Nat) (w : World) (ha : addr < 9223372036854775808) (hw : word < 9223372036854775808) :
    ∀ x y : Int, x / 2 = addr → y / 2 = word → Calls Try.prog 5 #[.int .u64 x, .int .u64 y] w fun e w' => e = .returned (.bool true) ∧ Below w.heap.size w w' := by
  intro x y hx hy
  have hu := Lib.hid (up_true w)
  have HU := Lib.hid (un_two (addr * 2) (word * 2 + 1) (by omega) (by omega))
  go_enter Try.func5, Try.ntmps5
  go_wp2_with fail
  refine hu.out.mono ?_
  rintro e w1 ⟨rfl, hb1⟩
  have B1 := Lib.hid hb1
  clear hb1
  go_wp2_with fail
  have e1 : (addr : Int) * 2 = ((addr * 2 : Nat) : Int) := by omega
  have e2 : (word : Int) * 2 + 1 = ((word * 2 + 1 : Nat) : Int) := by omega
  have e3 : (word : Int) * 2 = ((word * 2 : Nat) : Int) := by omega
  rw [e2, e1]
  have hA : addr * 2 < 18446744073709551616 := by omega
  have hV : word * 2 + 1 < 18446744073709551616 := by omega
  clear e1 e2
  rw [e3]
  clear e3 hx hy
  generalize word * 2 + 1 = V at *
  generalize addr * 2 = A at *
  generalize word * 2 = V0 at *
  refine (unpack_any (some ⟨w1.heap.size, 0, none⟩) 2 [A, V] _ (new_row w1 [A, V] _ (by simp; omega)) (by simp)).mono ?_
  intro e w2 ht
  obtain ⟨ad, cp, rfl, ho, -, hs⟩ := ht.at HU.out (Below.refl _ _)
  have S2 := Lib.hid (bstep B1.out (bstep ((Below.refl _ w1).alloc (Nat.le_refl _) _) hs))
  have HR := Lib.hid ho.at.2.1
  have hbl := bitsK_length V ((A + 8) % 18446744073709551616) 63
  have HBA := Lib.hid (fun k => @bitsK_at V ((A + 8) % 18446744073709551616) k)
  clear ht ho hs
  simp only [progEnd, errV]
  obtain ⟨b, off, rfl, hc0⟩ := HR.out 0 (by simp [toI])
  simp only [toI, List.map_cons, List.getD_cons_zero, Nat.add_zero] at hc0
  have hlen : (A :: bitsK V ((A + 8) % 18446744073709551616) 63).length = (bitsK V ((A + 8) % 18446744073709551616) 63).length + 1 := rfl
  rw [hlen]
  clear hlen
  go_wp2
  clear hc0
  go_loopg [1, 8, 9] 63 (fun g v n i wx => ∃ (j q : Nat), j + g = 63 ∧ i = .int .u64 (j + 1 : Nat) ∧ v = .int .u64 q ∧ q < 18446744073709551616 ∧ Hid (q = V / 2 ^ j) ∧ n = .int .i64 ((bitsK V ((A + 8) % 18446744073709551616) j).length + 1 : Nat) ∧ w2 = wx)
  case atStart => exact ⟨0, V, by omega, rfl, rfl, hV, Lib.hid (by simp), rfl, rfl⟩
  case round =>
    obtain ⟨j, q, hj, rfl, rfl, hq0, hq, rfl, rfl⟩ := hrel
    cases gk with
    | zero =>
      obtain rfl : j = 63 := by omega
      go_wp2
      go_ret
      exact ⟨rfl, S2.out⟩
    | succ g =>
      have htb := half_bit V j
      rw [← hq.out] at htb
      have HQ : Hid (q / 2 = V / 2 ^ (j + 1)) := Lib.hid (by rw [hq.out, half_pow])
      have hbl2 := bitsK_length V ((A + 8) % 18446744073709551616) j
      by_cases hb2 : q / 2 % 2 = 1
      · have hb3 : V.testBit (j + 1) = true := by rw [htb]; simpa using hb2
        have HB := Lib.hid (bitsK_yes (nx := (A + 8) % 18446744073709551616) hb3)
        obtain ⟨hlt, hat⟩ := HBA.out j (by omega) hb3
        obtain ⟨b', off', e, hc⟩ := HR.out ((bitsK V ((A + 8) % 18446744073709551616) j).length + 1) (by simp [toI]; omega)
        simp only [Option.some.injEq, Addr.mk.injEq, and_true] at e
        obtain ⟨rfl, rfl⟩ := e
        rw [toI_getD, List.getD_cons_succ, hat] at hc
        have hwr : IntKind.u64.wrap ((A : Int) + 8 * ((j : Int) + 1)) = ((((A + 8) % 18446744073709551616 + 8 * j) % 18446744073709551616 : Nat) : Int) := by
          rw [IntKind.wrap_u64]
          omega
        clear htb hb3 hat
        generalize ((A + 8) % 18446744073709551616 + 8 * j) % 18446744073709551616 = z at *
        have HL : Hid ((bitsK V ((A + 8) % 18446744073709551616) (j + 1)).length = (bitsK V ((A + 8) % 18446744073709551616) j).length + 1) := Lib.hid (by rw [HB.out]; simp)
        clear HB HBA
        generalize (bitsK V ((A + 8) % 18446744073709551616) j).length = m at *
        generalize (bitsK V ((A + 8) % 18446744073709551616) 63).length = m63 at *
        go_wp2
        go_roundg g
        case measure => omega
        case rel => exact ⟨j + 1, q / 2, by omega, by go_num, by go_num, by omega, HQ, vint (by rw [HL.out]; omega), rfl⟩
      · have HB := Lib.hid (bitsK_no (nx := (A + 8) % 18446744073709551616) (v := V) (k := j) (by rw [htb]; simpa using hb2))
        clear htb
        go_wp2
        go_roundg g
        case measure => omega
        case rel => exact ⟨j + 1, q / 2, by omega, by go_num, by go_num, by omega, HQ, by rw [HB.out], rfl⟩

theorem walk_RelsBits (x y : Int) (w : World) (wx : (Lit.int .u64 x).wf = true) (wy : (Lit.int .u64 y).wf = true) :
    Calls Try.prog 5 #[.int .u64 x, .int .u64 y] w fun e w' => e = .returned (.bool true) ∧ Below w.heap.size w w' := by
  obtain ⟨h0, h1⟩ := wf_u64_bounds wx
  obtain ⟨h2, h3⟩ := wf_u64_bounds wy
  rw [M64_eq] at h1 h3
  exact bits_at (x / 2).toNat (y / 2).toNat w (by omega) (by omega) x y (by omega) (by omega)
end Go.Proofs.Ytgdaeddcmplpkaa
