/- Layer 9: the document's own Unpack answers what the lists say. -/
import Derived.Test.YtgdaeddcmplpkaaRelsUnpack
namespace Go.Proofs.Ytgdaeddcmplpkaa
open Go.RowKit
set_option linter.unusedVariables false
set_option linter.unusedSimpArgs false

theorem head_at (ys : List Nat) : ys.getD 0 0 = ys.headD 0 := by cases ys <;> rfl

set_option maxRecDepth 100000 in
set_option maxHeartbeats 4000000 in
theorem refUnpack_any (a : Option Addr) (cap : Nat) (ys : List Nat) (w : World) (h : NRow w a ys) (hl : ys.length * 8 ≤ 140737488351232) :
    Calls Try.prog 10 #[.slice a ys.length cap] w (Tells refEnd (unF ys) w) := by
  have H := Lib.hid h
  clear h
  go_enter Try.func10, Try.ntmps10
  go_wp2
  go_loopw [4, 5, 6] (fun u n i wr => ∃ (k nx : Nat) (out : List Nat) (ad : Option Addr) (cp : Nat), k ≤ ys.length ∧ i = .int .i64 k ∧ n = .int .u64 nx ∧ u = .slice ad out.length cp ∧ OwnI wr w.heap.size 33 .u64 (.slice ad out.length cp) (toI out) ∧ Below w.heap.size w wr ∧ out.length ≤ 16384 ∧ nx < 18446744073709551616 ∧ Hid (unRun (ys.take k) = (out, nx)) ∧ Hid (k = 0 ∨ ¬ ys.headD 0 % 2 = 1)) (fun _ _ i _ => ys.length - (intOf i).toNat)
  case atStart => exact ⟨0, 0, [], none, 0, Nat.zero_le _, rfl, rfl, rfl, OwnI.nil _ _ _ _, Below.refl _ _, by simp, by omega, Lib.hid rfl, Lib.hid (.inl rfl)⟩
  case round =>
    obtain ⟨k, nx, out, ad, cp, hk, rfl, rfl, rfl, hown, hbe, hout, hnx, hrun, hfirst⟩ := hrel
    have hsz := hbe.size
    by_cases hlt : k < ys.length
    · obtain ⟨b, off, rfl, -, hck, hx⟩ := (H.out.below hbe).at hlt
      by_cases h2 : ys.getD k 0 % 2 = 0
      · have HR := Lib.hid (unRun_even hlt h2)
        rw [hrun.out] at HR
        have HF : Hid (¬ ys.headD 0 % 2 = 1) := Lib.hid (by
          rcases hfirst.out with rfl | h
          · rw [← head_at]; omega
          · exact h)
        generalize ys.getD k 0 = x at *
        by_cases h3 : out.length + 1 ≤ 16384
        · go_wp2_with (first
            | (at_builtin; refine wpList_push rfl (.tmp 22) (.tmp 24) slice64 rfl w.heap.size w _ (toI out) out.length (x : Int) rfl rfl (toI_length out) hown (by unfold maxLen; omega) (by omega) hbe hsz ?_; intro ad1 cp1 w1 hown1 hbe1; clear hown hbe))
          go_roundw
          case rel => exact ⟨k + 1, (x + 8) % 18446744073709551616, out ++ [x], ad1, cp1, by omega, by go_num, by go_num, by simp, by simpa [toI] using hown1, hbe1, by simpa using h3, Nat.mod_lt _ (by decide), HR, Lib.hid (.inr HF.out)⟩
          case measure => simp [intOf]; omega
        · go_wp2_with (first
            | (at_builtin; refine wpList_push rfl (.tmp 22) (.tmp 24) slice64 rfl w.heap.size w _ (toI out) out.length (x : Int) rfl rfl (toI_length out) hown (by unfold maxLen; omega) (by omega) hbe hsz ?_; intro ad1 cp1 w1 hown1 hbe1; clear hown hbe))
          go_ret2
          exact Tells.mk (unF_long HF.out (k := k + 1) (by rw [HR.out]; simp; omega)) rfl (OwnI.nil _ _ _ _) hbe1
      · by_cases hk0 : k = 0
        · subst hk0
          have HF : Hid (ys.headD 0 % 2 = 1) := Lib.hid (by rw [← head_at]; omega)
          generalize ys.getD 0 0 = x at *
          rw [Nat.add_zero] at hck
          go_wp2
          go_ret2
          exact Tells.mk (unF_odd HF.out) rfl (OwnI.nil _ _ _ _) hbe
        · have HR := Lib.hid (unRun_odd hlt h2)
          rw [hrun.out] at HR
          have HF : Hid (¬ ys.headD 0 % 2 = 1) := Lib.hid (by
            rcases hfirst.out with rfl | h
            · exact absurd rfl hk0
            · exact h)
          generalize ys.getD k 0 = x at *
          go_wp2
          go_loopw [4, 7, 8] (fun u v c wr2 => ∃ (j q : Nat) (ad2 : Option Addr) (cp2 : Nat), j ≤ 63 ∧ c = .int .i64 (j + 1 : Nat) ∧ v = .int .u64 q ∧ q < 18446744073709551616 ∧ Hid (q = x / 2 ^ j) ∧ u = .slice ad2 (out.length + (bitsK x nx j).length) cp2 ∧ OwnI wr2 w.heap.size 33 .u64 (.slice ad2 (out.length + (bitsK x nx j).length) cp2) (toI (out ++ bitsK x nx j)) ∧ Below w.heap.size w wr2) (fun _ _ c _ => 64 - (intOf c).toNat)
          case atStart => exact ⟨0, x, ad, cp, by omega, rfl, rfl, hx, Lib.hid (by simp), rfl, by rw [bitsK_zero, List.append_nil]; exact hown, hbe⟩
          case round =>
            clear hown hbe hsz
            obtain ⟨j, q, ad2, cp2, hj, rfl, rfl, hq, hqe, rfl, hown, hbe⟩ := hrel
            have hsz := hbe.size
            have hbl := bitsK_length x nx j
            by_cases hj2 : j < 63
            · have htb := half_bit x j
              rw [← hqe.out] at htb
              have HQ : Hid (q / 2 = x / 2 ^ (j + 1)) := Lib.hid (by rw [hqe.out, half_pow])
              by_cases hb2 : q / 2 % 2 = 1
              · have HB := Lib.hid (bitsK_yes (nx := nx) (v := x) (k := j) (by rw [htb]; simpa using hb2))
                have HL : Hid ((toI (out ++ bitsK x nx j)).length = out.length + (bitsK x nx j).length) := Lib.hid (by rw [toI_length, List.length_append])
                clear htb
                generalize bitsK x nx j = done at *
                go_wp2_with (first
                  | (at_builtin; refine wpList_push rfl (.tmp 39) (.tmp 46) slice64 rfl w.heap.size w _ _ (out.length + done.length) _ rfl rfl HL.out hown (by unfold maxLen; omega) (by omega) hbe hsz ?_; intro ad1 cp1 w1 hown1 hbe1; clear hown hbe))
                go_roundw
                case rel => exact ⟨j + 1, q / 2, ad1, cp1, by omega, by go_num, by go_num, by omega, HQ, by rw [HB.out]; simp; omega, by rw [HB.out]; rw [next_wrap] at hown1; simpa [toI, Nat.add_assoc] using hown1, hbe1⟩
                case measure => simp [intOf]; omega
              · have HB := Lib.hid (bitsK_no (nx := nx) (v := x) (k := j) (by rw [htb]; simpa using hb2))
                clear htb
                generalize bitsK x nx j = done at *
                go_wp2
                go_roundw
                case rel => exact ⟨j + 1, q / 2, ad2, cp2, by omega, by go_num, by go_num, by omega, HQ, by rw [HB.out], by rw [HB.out]; exact hown, hbe⟩
                case measure => simp [intOf]; omega
            · obtain rfl : j = 63 := by omega
              generalize bitsK x nx 63 = done at *
              by_cases h3 : out.length + done.length ≤ 16384
              · go_wp2
                go_roundw
                case rel => exact ⟨k + 1, (nx + 504) % 18446744073709551616, out ++ done, ad2, cp2, by omega, by go_num, by go_num, by simp, by simpa using hown, hbe, by simpa using h3, Nat.mod_lt _ (by decide), HR, Lib.hid (.inr HF.out)⟩
                case measure => simp [intOf]; omega
              · go_wp2
                go_ret2
                exact Tells.mk (unF_long HF.out (k := k + 1) (by rw [HR.out]; simp; omega)) rfl (OwnI.nil _ _ _ _) hbe
    · have hk' : k = ys.length := by omega
      have HK := Lib.hid hk'; clear hk'
      go_wp2
      go_ret2
      have hr := hrun.out
      rw [HK.out, List.take_length] at hr
      refine Tells.mk (unF_yes ?_ (by rw [hr]; exact hout)) rfl (by rw [hr]; exact hown) hbe
      rcases hfirst.out with h | h
      · rw [HK.out] at h
        have : ys = [] := List.eq_nil_of_length_eq_zero h
        subst this
        simp
      · exact h
end Go.Proofs.Ytgdaeddcmplpkaa
