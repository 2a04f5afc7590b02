/- Layer 9: the document's own Pack answers what the lists say. -/
import Derived.Test.YtgdaeddcmplpkaaRelsPack
import Derived.BigQuiet
namespace Go.Proofs.Ytgdaeddcmplpkaa
open Go.RowKit
set_option linter.unusedVariables false
set_option linter.unusedSimpArgs false

theorem bit_step (j e : Nat) (h : j < e) (he : e < 63) : 2 * 2 ^ (j + 1) = 2 ^ (j + 1 + 1) ∧ 2 ^ (j + 1) < 9223372036854775808 := by
  refine ⟨by rw [Nat.pow_succ 2 (j + 1), Nat.mul_comm], ?_⟩
  rw [show (9223372036854775808 : Nat) = 2 ^ 63 from rfl]
  exact Nat.pow_lt_pow_right (by omega) (by omega)

set_option maxRecDepth 100000 in
set_option maxHeartbeats 16000000 in
theorem refPack_any (a : Option Addr) (cap : Nat) (ys : List Nat) (w : World) (h : NRow w a ys) (hl : ys.length * 8 ≤ 140737488351232) :
    Calls Try.prog 9 #[.slice a ys.length cap] w (Tells refEnd (packF ys) w) := by
  have H := Lib.hid h
  clear h
  go_enter Try.func9, Try.ntmps9
  go_wp2
  go_loopg [4] ys.length (fun g i wr => ∃ k : Nat, k + g = ys.length ∧ i = .int .i64 k ∧ Hid (okTo ys k) ∧ Below w.heap.size w wr)
  case atStart => exact ⟨0, by omega, rfl, Lib.hid (fun i hi => by omega), Below.refl _ _⟩
  case round =>
    obtain ⟨k, hk, rfl, hok, hbe⟩ := hrel
    cases gk with
    | succ g =>
      have hlt : k < ys.length := by omega
      obtain ⟨b, off, rfl, hb, hc0, hx⟩ := H.out.at hlt
      have hck := (hbe.cell (p := ⟨b, off + k, none⟩) hb).trans hc0
      clear hc0
      by_cases h2 : ys.getD k 0 % 2 = 0
      · have hab : (((ys.getD k 0 : Nat) : Int) % 2 == 1) = false := by rw [beq_eq_false_iff_ne]; omega
        cases k with
        | zero =>
          have HS := Lib.hid (okTo_succ hok.out h2 (fun h => absurd h (by omega)))
          generalize ys.getD 0 0 = x at *
          rw [Nat.add_zero] at hck
          go_wp2_with fail
          go_quiet (fail)
          go_wp2
          go_roundg g
          case measure => omega
          case rel => exact ⟨1, by omega, by go_num, HS, below_drewN hbe nq⟩
        | succ m =>
          obtain ⟨b', off', e, -, hcm0, hxm⟩ := H.out.at (show m < ys.length from by omega)
          simp only [Option.some.injEq, Addr.mk.injEq, and_true] at e
          obtain ⟨rfl, rfl⟩ := e
          have hcm := (hbe.cell (p := ⟨b, off + m, none⟩) hb).trans hcm0
          clear hcm0
          have hk0 : decide ((0 : Int) < ((m + 1 : Nat) : Int)) = true := by rw [decide_eq_true_eq]; omega
          by_cases h3 : ys.getD m 0 < ys.getD (m + 1) 0
          · have HS := Lib.hid (okTo_succ hok.out h2 (fun _ => h3))
            generalize ys.getD (m + 1) 0 = x at *
            generalize ys.getD m 0 = p at *
            go_wp2_with fail
            go_quiet (fail)
            go_wp2
            go_roundg g
            case measure => omega
            case rel => exact ⟨m + 1 + 1, by omega, by go_num, HS, below_drewN hbe nq⟩
          · have HS := Lib.hid (packF_bad (m + 1) hlt (fun h => h3 (h.2 (by omega))))
            generalize ys.getD (m + 1) 0 = x at *
            generalize ys.getD m 0 = p at *
            go_wp2_with fail
            go_quiet (fail)
            go_wp2
            go_ret2
            exact Tells.mk HS.out rfl (OwnI.nil _ _ _ _) (below_drewN hbe nq)
      · have hab : (((ys.getD k 0 : Nat) : Int) % 2 == 1) = true := by rw [beq_iff_eq]; omega
        have HS := Lib.hid (packF_bad k hlt (fun h => h2 h.1))
        generalize ys.getD k 0 = x at *
        go_wp2_with fail
        go_quiet (fail)
        go_wp2
        go_ret2
        exact Tells.mk HS.out rfl (OwnI.nil _ _ _ _) (below_drewN hbe nq)
    | zero =>
      have hk' : k = ys.length := by omega
      have HK := Lib.hid (show okTo ys ys.length from by rw [← hk']; exact hok.out)
      clear hok hk
      subst hk'
      by_cases h3 : 16384 < ys.length
      · go_wp2
        go_ret2
        exact Tells.mk (packF_long HK.out h3) rfl (OwnI.nil _ _ _ _) hbe
      · go_wp2
        go_loopg [5, 6] ys.length (fun g u i wr => ∃ (k : Nat) (out : List Nat) (ad : Option Addr) (cp : Nat), k + g = ys.length ∧ i = .int .i64 k ∧ u = .slice ad out.length cp ∧ OwnI wr w.heap.size 33 .u64 (.slice ad out.length cp) (toI out) ∧ Below w.heap.size w wr ∧ out.length ≤ k ∧ Hid (packW none ys = out ++ packW none (ys.drop k)))
        case atStart => exact ⟨0, [], none, 0, by omega, rfl, rfl, OwnI.nil _ _ _ _, hbe, by simp, Lib.hid (by simp)⟩
        case round =>
          clear hbe
          obtain ⟨k, out, ad, cp, hk, rfl, rfl, hown, hbe, hout, hrun⟩ := hrel
          have hsz := hbe.size
          cases gk with
          | zero =>
            have HE := Lib.hid (show packW none ys = out from by
              have := hrun.out
              rw [List.drop_eq_nil_of_le (by omega), packW_nil, List.append_nil] at this
              exact this)
            clear hrun
            have hk' : k = ys.length := by omega
            clear hk
            subst hk'
            go_wp2
            go_ret2
            exact Tells.mk (packF_yes HK.out h3) rfl (by rw [HE.out]; exact hown) hbe
          | succ g =>
            have hlt : k < ys.length := by omega
            obtain ⟨b, off, rfl, hb, hc0, hx⟩ := H.out.at hlt
            have hck := (hbe.cell (p := ⟨b, off + k, none⟩) hb).trans hc0
            have HC0 := Lib.hid hc0
            clear hc0
            have HC := Lib.hid (show packW none ys = (out ++ [ys.getD k 0]) ++ packW (some (ys.getD k 0 + 8)) (ys.drop (k + 1)) from by
              rw [hrun.out, List.drop_eq_getElem_cons hlt, packW_cons, getD_getElem hlt, List.append_assoc]
              rfl)
            clear hrun
            have HX : Hid (ys.getD (k + 1 - 1) 0 = ys.getD k 0) := Lib.hid rfl
            generalize ys.getD k 0 = x at *
            have HCX : Hid (w.cell? ⟨b, off + k, none⟩ = some (.int .u64 (x : Int))) := HC0
            clear HC0
            go_wp2_with (first
              | (at_builtin; refine wpList_push rfl (.tmp 47) (.tmp 52) slice64 rfl w.heap.size w _ (toI out) out.length (x : Int) rfl rfl (toI_length out) hown (by unfold maxLen; omega) (by omega) hbe hsz ?_; intro ad1 cp1 w1 hown1 hbe1; clear hown hbe hck; have hck1 := (hbe1.cell (p := ⟨b, off + k, none⟩) hb).trans HCX.out))
            have hout1 : (out ++ [x]).length ≤ k + 1 := by simp; omega
            have hown2 : OwnI w1 w.heap.size 33 .u64 (.slice ad1 (out ++ [x]).length cp1) (toI (out ++ [x])) := by simpa [toI] using hown1
            have hlen2 : out.length + 1 = (out ++ [x]).length := by simp
            rw [hlen2]
            clear hown1 hck1 hlen2 HCX
            generalize out ++ [x] = out1 at *
            go_loopg [5, 6, 7] g (fun g3 u i n wx => ∃ (k3 N nn p : Nat) (o3 : List Nat) (ad : Option Addr) (cp : Nat), k3 + g3 = ys.length ∧ k < k3 ∧ i = .int .i64 k3 ∧ n = .int .u64 nn ∧ nn < 18446744073709551616 ∧ Hid (nn = N % 18446744073709551616) ∧ u = .slice ad o3.length cp ∧ OwnI wx w.heap.size 33 .u64 (.slice ad o3.length cp) (toI o3) ∧ Below w.heap.size w wx ∧ o3.length ≤ k3 ∧ Hid (packW none ys = o3 ++ packW (some N) (ys.drop k3)) ∧ Hid (ys.getD (k3 - 1) 0 = p) ∧ p < N ∧ N ≤ p + 504)
            case atStart => exact ⟨k + 1, x + 8, (x + 8) % 18446744073709551616, x, out1, ad1, cp1, by omega, by omega, by go_num, by go_num, by omega, Lib.hid rfl, rfl, hown2, hbe1, hout1, HC, HX, by omega, by omega⟩
            case round =>
              clear hown2 hbe1 hout1 HC HX hsz
              obtain ⟨k3, N, nn, p, o3, ad3, cp3, hk3, hkk, rfl, rfl, hnn0, hnn, rfl, hown, hbe, ho3, hrun, hp, hp1, hp2⟩ := hrel
              have hsz := hbe.size
              rename_i gm _ _ _
              go_wp2
              go_loopg [6, 8] gk (fun g4 i v wx => ∃ (k4 v4 : Nat), k4 + g4 = ys.length ∧ k3 ≤ k4 ∧ i = .int .i64 k4 ∧ v = .int .u64 v4 ∧ v4 < 18446744073709551616 ∧ Hid (Run ys N k3 k4 v4) ∧ wr = wx)
              case atStart => exact ⟨k3, 1, hk3, Nat.le_refl _, rfl, rfl, by omega, Lib.hid (Run.start ys N k3), rfl⟩
              case round =>
                obtain ⟨k4, v4, hk4, hkk4, rfl, rfl, hv4, HR, rfl⟩ := hrel
                cases gk with
                | zero =>
                  have hk4' : k4 = ys.length := by omega
                  by_cases hkk4 : k4 = k3
                  · subst hkk4
                    obtain ⟨rfl, hN⟩ := HR.out.none (by omega) (.inl hk4') hrun.out
                    have HN := Lib.hid hN
                    clear hN hrun HR
                    skip
                    go_wp2
                    go_roundg (ys.length - k4)
                    case measure => omega
                    case rel => exact ⟨k4, o3, ad3, cp3, by omega, vint (by omega), rfl, hown, hbe, by omega, HN⟩
                  · obtain ⟨hv1, hS, hS1, hS2⟩ := HR.out.some (by omega) (by omega) (.inl hk4') hrun.out
                    have HS := Lib.hid hS
                    have HT : Hid (ys.getD (k4 - 1) 0 < N + 504 ∧ N + 504 ≤ ys.getD (k4 - 1) 0 + 504) := Lib.hid (by omega)
                    clear hS hv1 hrun HR hS1 hS2
                    skip
                    go_wp2_with (first
                      | (at_builtin; refine wpList_push rfl (.tmp 115) (.tmp 117) slice64 rfl w.heap.size w _ (toI o3) o3.length (v4 : Int) rfl rfl (toI_length o3) hown (by unfold maxLen; omega) (by omega) hbe hsz ?_; intro ad1 cp1 w1 hown1 hbe1; clear hown hbe))
                    go_roundg (ys.length - k4)
                    case measure => omega
                    case rel => exact ⟨k4, N + 504, (nn + 504) % 18446744073709551616, ys.getD (k4 - 1) 0, o3 ++ [v4], ad1, cp1, by omega, by omega, vint (by omega), vint (wrap_504 nn), by omega, Lib.hid (by rw [hnn.out]; omega), by simp, by simpa [toI] using hown1, hbe1, by simp; omega, HS, Lib.hid rfl, HT.out.1, HT.out.2⟩
                | succ g4 =>
                  have hlt4 : k4 < ys.length := by omega
                  obtain ⟨b', off', e, hb', hc4, hx4⟩ := H.out.at hlt4
                  simp only [Option.some.injEq, Addr.mk.injEq, and_true] at e
                  obtain ⟨rfl, rfl⟩ := e
                  have hck4 := (hbe.cell (p := ⟨b, off + k4, none⟩) hb').trans hc4
                  have hpx := okTo_lt HK.out (show k3 - 1 < k4 from by omega) hlt4
                  rw [hp.out] at hpx
                  obtain ⟨d, hd, hdlt, hdf, hdn⟩ := diff_fits hnn.out hx4 hpx hp1 hp2
                  clear hc4
                  have htm := tmod_8 d
                  by_cases hf : fits N (ys.getD k4 0)
                  · obtain ⟨hd1, hd2⟩ := hdf hf
                    obtain ⟨e, he⟩ : ∃ e, ys.getD k4 0 = N + 8 * e := ⟨(ys.getD k4 0 - N) / 8, by unfold fits at hf; omega⟩
                    have he2 : e < 63 := by omega
                    obtain ⟨hw1, hw2, hw3⟩ := HR.out.next HK.out H.out.2 hkk4 hlt4 rfl he he2
                    have HW := Lib.hid hw3
                    have hge : nn ≤ ys.getD k4 0 := by rw [hnn.out]; omega
                    have hdq : (d : Int) / 8 = (e : Int) := by omega
                    have htm0 : ((d : Int).tmod 8) = 0 := by rw [htm]; omega
                    clear hw3 hdf hdn hd1 hf hpx HR hdlt he hw1 htm hd2
                    generalize ys.getD k4 0 = x4 at *
                    go_wp2
                    go_loopg [10, 11] e (fun g5 v i wx => ∃ (j q : Nat), j + g5 = e ∧ i = .int .u64 j ∧ v = .int .u64 q ∧ Hid (q = 2 ^ (j + 1)) ∧ wr = wx)
                    case atStart => exact ⟨0, 2, by omega, rfl, rfl, Lib.hid rfl, rfl⟩
                    case round =>
                      obtain ⟨j, q, hj, rfl, rfl, hq, rfl⟩ := hrel
                      cases gk with
                      | zero =>
                        have hj' : j = e := by omega
                        clear hj
                        subst hj'
                        have hw2' : v4 + q < 18446744073709551616 := by rw [hq.out]; exact hw2
                        have HW' : Hid (Run ys N k3 (k4 + 1) (v4 + q)) := by rw [hq.out]; exact HW
                        clear hw2 HW
                        go_wp2
                        go_roundg g4
                        case measure => omega
                        case rel => exact ⟨k4 + 1, v4 + q, by omega, by omega, by go_num, by go_num, hw2', HW', rfl⟩
                      | succ g5 =>
                        obtain ⟨hb1, hb2⟩ := bit_step j e (by omega) he2
                        rw [← hq.out] at hb1 hb2
                        have HB1 := Lib.hid hb1
                        clear hb1 hw2
                        go_wp2
                        go_roundg g5
                        case measure => omega
                        case rel => exact ⟨j + 1, 2 * q, by omega, by go_num, by go_num, HB1, rfl⟩
                  · have hdd := hdn hf
                    have hnf := Lib.hid hf
                    clear hf hdf hdn hpx
                    by_cases hge : nn ≤ ys.getD k4 0
                    · by_cases hd8 : d % 8 = 0
                      · have htm0 : ((d : Int).tmod 8) = 0 := by rw [htm]; omega
                        have hdq : ¬ (d : Int) / 8 ≤ 62 := by omega
                        clear htm hdd hd8
                        by_cases hkk4 : k4 = k3
                        · subst hkk4
                          obtain ⟨rfl, hN⟩ := HR.out.none (by omega) (.inr hnf.out) hrun.out
                          have HN := Lib.hid hN
                          clear hN hrun HR
                          clear hnf; generalize ys.getD k4 0 = x4 at *
                          go_wp2
                          go_roundg (ys.length - k4)
                          case measure => omega
                          case rel => exact ⟨k4, o3, ad3, cp3, by omega, vint (by omega), rfl, hown, hbe, by omega, HN⟩
                        · obtain ⟨hv1, hS, hS1, hS2⟩ := HR.out.some (by omega) (by omega) (.inr hnf.out) hrun.out
                          have HS := Lib.hid hS
                          have HT : Hid (ys.getD (k4 - 1) 0 < N + 504 ∧ N + 504 ≤ ys.getD (k4 - 1) 0 + 504) := Lib.hid (by omega)
                          clear hS hv1 hrun HR hS1 hS2
                          clear hnf; generalize ys.getD k4 0 = x4 at *
                          go_wp2_with (first
                            | (at_builtin; refine wpList_push rfl (.tmp 115) (.tmp 117) slice64 rfl w.heap.size w _ (toI o3) o3.length (v4 : Int) rfl rfl (toI_length o3) hown (by unfold maxLen; omega) (by omega) hbe hsz ?_; intro ad1 cp1 w1 hown1 hbe1; clear hown hbe))
                          go_roundg (ys.length - k4)
                          case measure => omega
                          case rel => exact ⟨k4, N + 504, (nn + 504) % 18446744073709551616, ys.getD (k4 - 1) 0, o3 ++ [v4], ad1, cp1, by omega, by omega, vint (by omega), vint (wrap_504 nn), by omega, Lib.hid (by rw [hnn.out]; omega), by simp, by simpa [toI] using hown1, hbe1, by simp; omega, HS, Lib.hid rfl, HT.out.1, HT.out.2⟩
                      · have htm0 : ¬ ((d : Int).tmod 8) = 0 := by rw [htm]; omega
                        clear htm hdd hd8
                        by_cases hkk4 : k4 = k3
                        · subst hkk4
                          obtain ⟨rfl, hN⟩ := HR.out.none (by omega) (.inr hnf.out) hrun.out
                          have HN := Lib.hid hN
                          clear hN hrun HR
                          clear hnf; generalize ys.getD k4 0 = x4 at *
                          go_wp2
                          go_roundg (ys.length - k4)
                          case measure => omega
                          case rel => exact ⟨k4, o3, ad3, cp3, by omega, vint (by omega), rfl, hown, hbe, by omega, HN⟩
                        · obtain ⟨hv1, hS, hS1, hS2⟩ := HR.out.some (by omega) (by omega) (.inr hnf.out) hrun.out
                          have HS := Lib.hid hS
                          have HT : Hid (ys.getD (k4 - 1) 0 < N + 504 ∧ N + 504 ≤ ys.getD (k4 - 1) 0 + 504) := Lib.hid (by omega)
                          clear hS hv1 hrun HR hS1 hS2
                          clear hnf; generalize ys.getD k4 0 = x4 at *
                          go_wp2_with (first
                            | (at_builtin; refine wpList_push rfl (.tmp 115) (.tmp 117) slice64 rfl w.heap.size w _ (toI o3) o3.length (v4 : Int) rfl rfl (toI_length o3) hown (by unfold maxLen; omega) (by omega) hbe hsz ?_; intro ad1 cp1 w1 hown1 hbe1; clear hown hbe))
                          go_roundg (ys.length - k4)
                          case measure => omega
                          case rel => exact ⟨k4, N + 504, (nn + 504) % 18446744073709551616, ys.getD (k4 - 1) 0, o3 ++ [v4], ad1, cp1, by omega, by omega, vint (by omega), vint (wrap_504 nn), by omega, Lib.hid (by rw [hnn.out]; omega), by simp, by simpa [toI] using hown1, hbe1, by simp; omega, HS, Lib.hid rfl, HT.out.1, HT.out.2⟩
                    · clear htm hdd
                      by_cases hkk4 : k4 = k3
                      · subst hkk4
                        obtain ⟨rfl, hN⟩ := HR.out.none (by omega) (.inr hnf.out) hrun.out
                        have HN := Lib.hid hN
                        clear hN hrun HR
                        clear hnf; generalize ys.getD k4 0 = x4 at *
                        go_wp2
                        go_roundg (ys.length - k4)
                        case measure => omega
                        case rel => exact ⟨k4, o3, ad3, cp3, by omega, vint (by omega), rfl, hown, hbe, by omega, HN⟩
                      · obtain ⟨hv1, hS, hS1, hS2⟩ := HR.out.some (by omega) (by omega) (.inr hnf.out) hrun.out
                        have HS := Lib.hid hS
                        have HT : Hid (ys.getD (k4 - 1) 0 < N + 504 ∧ N + 504 ≤ ys.getD (k4 - 1) 0 + 504) := Lib.hid (by omega)
                        clear hS hv1 hrun HR hS1 hS2
                        clear hnf; generalize ys.getD k4 0 = x4 at *
                        go_wp2_with (first
                          | (at_builtin; refine wpList_push rfl (.tmp 115) (.tmp 117) slice64 rfl w.heap.size w _ (toI o3) o3.length (v4 : Int) rfl rfl (toI_length o3) hown (by unfold maxLen; omega) (by omega) hbe hsz ?_; intro ad1 cp1 w1 hown1 hbe1; clear hown hbe))
                        go_roundg (ys.length - k4)
                        case measure => omega
                        case rel => exact ⟨k4, N + 504, (nn + 504) % 18446744073709551616, ys.getD (k4 - 1) 0, o3 ++ [v4], ad1, cp1, by omega, by omega, vint (by omega), vint (wrap_504 nn), by omega, Lib.hid (by rw [hnn.out]; omega), by simp, by simpa [toI] using hown1, hbe1, by simp; omega, HS, Lib.hid rfl, HT.out.1, HT.out.2⟩
end Go.Proofs.Ytgdaeddcmplpkaa
