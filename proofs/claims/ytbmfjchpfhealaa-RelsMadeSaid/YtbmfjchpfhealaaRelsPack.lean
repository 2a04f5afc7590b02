/- Layer 9: rels.Pack answers what the lists say. -/
import Derived.Test.YtbmfjchpfhealaaPackNum
import Derived.Test.YtbmfjchpfhealaaRelsUnpack
import Derived.Deep.LoopGhost
import Derived.WalkMore
namespace Go.Proofs.Ytbmfjchpfhealaa
open Go.RowKit
set_option linter.unusedVariables false
set_option linter.unusedSimpArgs false

/-- the difference as the machine has it -/
theorem diff_fits {N n x p : Nat} (hn : n = N % 18446744073709551616) (hx : x < 18446744073709551616) (hp : p < x) (h1 : p < N) (h2 : N ≤ p + 504) :
    ∃ d : Nat, IntKind.u64.wrap ((x : Int) - (n : Int)) = (d : Int) ∧ d < 18446744073709551616 ∧ (fits N x → d = x - N ∧ d < 504) ∧ (¬ fits N x → d % 8 ≠ 0 ∨ 504 ≤ d) := by
  refine ⟨(IntKind.u64.wrap ((x : Int) - (n : Int))).toNat, ?_⟩
  rw [IntKind.wrap_u64]
  unfold fits
  refine ⟨by omega, by omega, fun h => by omega, fun h => by omega⟩
theorem wrap_504 (n : Nat) : IntKind.u64.wrap ((n : Int) + 504) = (((n + 504) % 18446744073709551616 : Nat) : Int) := by
  rw [IntKind.wrap_u64]
  omega
theorem tmod_8 (d : Nat) : ((d : Int).tmod 8) = ((d % 8 : Nat) : Int) := by
  rw [Int.tmod_eq_emod_of_nonneg (by omega)]
  omega

theorem okTo_succ {ys : List Nat} {k : Nat} (h : okTo ys k) (h2 : ys.getD k 0 % 2 = 0) (h3 : 0 < k → ys.getD (k - 1) 0 < ys.getD k 0) : okTo ys (k + 1) := by
  intro i hi
  by_cases hk : i = k
  · subst hk; exact ⟨h2, h3⟩
  · exact h i (by omega)

set_option maxRecDepth 100000 in
set_option maxHeartbeats 8000000 in
theorem pack_any (a : Option Addr) (cap : Nat) (ys : List Nat) (w : World) (h : NRow w a ys) (hl : ys.length * 8 ≤ 140737488351232) :
    Calls Try.prog 25 #[.slice a ys.length cap] w (Tells progEnd (packF ys) w) := by
  have H := Lib.hid h
  clear h
  go_enter Try.func25, Try.ntmps25
  go_wp2
  go_step3
  go_wp2
  go_loopg [12] ys.length (fun g i wr => ∃ k : Nat, k + g = ys.length ∧ i = .int .i64 k ∧ Hid (okTo ys k) ∧ w = wr)
  case atStart => exact ⟨0, by omega, rfl, Lib.hid (fun i hi => by omega), rfl⟩
  case round =>
    obtain ⟨k, hk, rfl, hok, rfl⟩ := hrel
    cases gk with
    | succ g =>
      have hlt : k < ys.length := by omega
      obtain ⟨b, off, rfl, -, hck, hx⟩ := H.out.at hlt
      by_cases h2 : ys.getD k 0 % 2 = 0
      · have hab := and_one_even hx h2
        cases k with
        | zero =>
          have HS := Lib.hid (okTo_succ hok.out h2 (fun h => absurd h (by omega)))
          generalize ys.getD 0 0 = x at *
          rw [Nat.add_zero] at hck
          go_wp2
          go_roundg g
          case measure => omega
          case rel => exact ⟨1, by omega, by go_num, HS, rfl⟩
        | succ m =>
          obtain ⟨b', off', e, -, hcm, hxm⟩ := H.out.at (show m < ys.length from by omega)
          simp only [Option.some.injEq, Addr.mk.injEq, and_true] at e
          obtain ⟨rfl, rfl⟩ := e
          by_cases h3 : ys.getD m 0 < ys.getD (m + 1) 0
          · have HS := Lib.hid (okTo_succ hok.out h2 (fun _ => h3))
            generalize ys.getD (m + 1) 0 = x at *
            generalize ys.getD m 0 = p at *
            go_wp2
            go_roundg g
            case measure => omega
            case rel => exact ⟨m + 1 + 1, by omega, by go_num, HS, rfl⟩
          · have HS := Lib.hid (packF_bad (m + 1) hlt (fun h => h3 (h.2 (by omega))))
            generalize ys.getD (m + 1) 0 = x at *
            generalize ys.getD m 0 = p at *
            go_wp2
            try rw [Exit.noGoto_ret]
            go_ret2
            exact Tells.mk HS.out rfl (OwnI.nil _ _ _ _) (Below.refl _ _)
      · have hab := and_one_odd hx h2
        have HS := Lib.hid (packF_bad k hlt (fun h => h2 h.1))
        generalize ys.getD k 0 = x at *
        go_wp2
        try rw [Exit.noGoto_ret]
        go_ret2
        exact Tells.mk HS.out rfl (OwnI.nil _ _ _ _) (Below.refl _ _)
    | zero =>
      have hk' : k = ys.length := by omega
      have HK := Lib.hid (show okTo ys ys.length from by rw [← hk']; exact hok.out)
      clear hok hk
      subst hk'
      by_cases h3 : 16384 < ys.length
      · go_wp2
        try rw [Exit.noGoto_ret]
        go_ret2
        exact Tells.mk (packF_long HK.out h3) rfl (OwnI.nil _ _ _ _) (Below.refl _ _)
      · go_wp2
        go_step3
        go_wp2
        go_loopg [6, 7] ys.length (fun g u i wr => ∃ (k : Nat) (out : List Nat) (ad : Option Addr) (cp : Nat), k + g = ys.length ∧ i = .int .i64 k ∧ u = .slice ad out.length cp ∧ OwnI wr w.heap.size 23 .u64 (.slice ad out.length cp) (toI out) ∧ Below w.heap.size w wr ∧ out.length ≤ k ∧ Hid (packW none ys = out ++ packW none (ys.drop k)))
        case atStart => exact ⟨0, [], none, 0, by omega, rfl, rfl, OwnI.nil _ _ _ _, Below.refl _ _, by simp, Lib.hid (by simp)⟩
        case round =>
          obtain ⟨k, out, ad, cp, hk, rfl, rfl, hown, hbe, hout, hrun⟩ := hrel
          have hsz := hbe.size
          cases gk with
          | zero =>
            have HE := Lib.hid (show packW none ys = out from by
              have := hrun.out
              rw [List.drop_eq_nil_of_le (by omega), packW_nil, List.append_nil] at this
              exact this)
            clear hrun
            have hk' : k = ys.length := by omega
            clear hk
            subst hk'
            go_wp2
            try rw [Exit.noGoto_ret]
            go_ret2
            exact Tells.mk (packF_yes HK.out h3) rfl (by rw [HE.out]; exact hown) hbe
          | succ g =>
            have hlt : k < ys.length := by omega
            obtain ⟨b, off, rfl, hb, hc0, hx⟩ := H.out.at hlt
            have hck := (hbe.cell (p := ⟨b, off + k, none⟩) hb).trans hc0
            have HC0 := Lib.hid hc0
            clear hc0
            have HC := Lib.hid (show packW none ys = (out ++ [ys.getD k 0]) ++ packW (some (ys.getD k 0 + 8)) (ys.drop (k + 1)) from by
              rw [hrun.out, List.drop_eq_getElem_cons hlt, packW_cons, getD_getElem hlt, List.append_assoc]
              rfl)
            clear hrun
            have HX : Hid (ys.getD (k + 1 - 1) 0 = ys.getD k 0) := Lib.hid rfl
            generalize ys.getD k 0 = x at *
            have HCX : Hid (w.cell? ⟨b, off + k, none⟩ = some (.int .u64 (x : Int))) := HC0
            clear HC0
            go_wp2_with (first
              | (at_builtin; refine wpList_push rfl (.tmp 43) (.tmp 48) slice64 rfl w.heap.size w _ (toI out) out.length (x : Int) rfl rfl (toI_length out) hown (by unfold maxLen; omega) (by omega) hbe hsz ?_; intro ad1 cp1 w1 hown1 hbe1; clear hown hbe hck; have hck1 := (hbe1.cell (p := ⟨b, off + k, none⟩) hb).trans HCX.out))
            have hout1 : (out ++ [x]).length ≤ k + 1 := by simp; omega
            have hown2 : OwnI w1 w.heap.size 23 .u64 (.slice ad1 (out ++ [x]).length cp1) (toI (out ++ [x])) := by simpa [toI] using hown1
            have hlen2 : out.length + 1 = (out ++ [x]).length := by simp
            rw [hlen2]
            clear hown1 hck1 hlen2 HCX
            generalize out ++ [x] = out1 at *
            go_loopg [6, 7, 8] g (fun g3 u i n wx => ∃ (k3 N nn p : Nat) (o3 : List Nat) (ad : Option Addr) (cp : Nat), k3 + g3 = ys.length ∧ k < k3 ∧ i = .int .i64 k3 ∧ n = .int .u64 nn ∧ nn < 18446744073709551616 ∧ Hid (nn = N % 18446744073709551616) ∧ u = .slice ad o3.length cp ∧ OwnI wx w.heap.size 23 .u64 (.slice ad o3.length cp) (toI o3) ∧ Below w.heap.size w wx ∧ o3.length ≤ k3 ∧ Hid (packW none ys = o3 ++ packW (some N) (ys.drop k3)) ∧ Hid (ys.getD (k3 - 1) 0 = p) ∧ p < N ∧ N ≤ p + 504)
            case atStart => exact ⟨k + 1, x + 8, (x + 8) % 18446744073709551616, x, out1, ad1, cp1, by omega, by omega, by go_num, by go_num, by omega, Lib.hid rfl, rfl, hown2, hbe1, hout1, HC, HX, by omega, by omega⟩
            case round =>
              clear hown2 hbe1 hout1 HC HX hsz
              obtain ⟨k3, N, nn, p, o3, ad3, cp3, hk3, hkk, rfl, rfl, hnn0, hnn, rfl, hown, hbe, ho3, hrun, hp, hp1, hp2⟩ := hrel
              have hsz := hbe.size
              rename_i gm _ _ _
              go_wp2
              go_loopg [7, 9] gk (fun g4 i v wx => ∃ (k4 v4 : Nat), k4 + g4 = ys.length ∧ k3 ≤ k4 ∧ i = .int .i64 k4 ∧ v = .int .u64 v4 ∧ v4 < 18446744073709551616 ∧ Hid (Run ys N k3 k4 v4) ∧ wr = wx)
              case atStart => exact ⟨k3, 1, hk3, Nat.le_refl _, rfl, rfl, by omega, Lib.hid (Run.start ys N k3), rfl⟩
              case round =>
                obtain ⟨k4, v4, hk4, hkk4, rfl, rfl, hv4, HR, rfl⟩ := hrel
                cases gk with
                | zero =>
                  have hk4' : k4 = ys.length := by omega
                  by_cases hkk4 : k4 = k3
                  · subst hkk4
                    obtain ⟨rfl, hN⟩ := HR.out.none (by omega) (.inl hk4') hrun.out
                    have HN := Lib.hid hN
                    clear hN hrun HR
                    skip
                    go_wp2
                    go_roundg (ys.length - k4)
                    case measure => omega
                    case rel => exact ⟨k4, o3, ad3, cp3, by omega, vint (by omega), rfl, hown, hbe, by omega, HN⟩
                  · obtain ⟨hv1, hS, hS1, hS2⟩ := HR.out.some (by omega) (by omega) (.inl hk4') hrun.out
                    have HS := Lib.hid hS
                    have hv1' : ((v4 : Int) == 1) = false := by rw [beq_eq_false_iff_ne]; omega
                    have HT : Hid (ys.getD (k4 - 1) 0 < N + 504 ∧ N + 504 ≤ ys.getD (k4 - 1) 0 + 504) := Lib.hid (by omega)
                    clear hS hv1 hrun HR hS1 hS2
                    skip
                    go_wp2_with (first
                      | (at_builtin; refine wpList_push rfl (.tmp 96) (.tmp 98) slice64 rfl w.heap.size w _ (toI o3) o3.length (v4 : Int) rfl rfl (toI_length o3) hown (by unfold maxLen; omega) (by omega) hbe hsz ?_; intro ad1 cp1 w1 hown1 hbe1; clear hown hbe))
                    go_roundg (ys.length - k4)
                    case measure => omega
                    case rel => exact ⟨k4, N + 504, (nn + 504) % 18446744073709551616, ys.getD (k4 - 1) 0, o3 ++ [v4], ad1, cp1, by omega, by omega, vint (by omega), vint (wrap_504 nn), by omega, Lib.hid (by rw [hnn.out]; omega), by simp, by simpa [toI] using hown1, hbe1, by simp; omega, HS, Lib.hid rfl, HT.out.1, HT.out.2⟩
                | succ g4 =>
                  have hlt4 : k4 < ys.length := by omega
                  obtain ⟨b', off', e, hb', hc4, hx4⟩ := H.out.at hlt4
                  simp only [Option.some.injEq, Addr.mk.injEq, and_true] at e
                  obtain ⟨rfl, rfl⟩ := e
                  have hck4 := (hbe.cell (p := ⟨b, off + k4, none⟩) hb').trans hc4
                  have hpx := okTo_lt HK.out (show k3 - 1 < k4 from by omega) hlt4
                  rw [hp.out] at hpx
                  obtain ⟨d, hd, hdlt, hdf, hdn⟩ := diff_fits hnn.out hx4 hpx hp1 hp2
                  clear hc4
                  have htm := tmod_8 d
                  by_cases hf : fits N (ys.getD k4 0)
                  · obtain ⟨hd1, hd2⟩ := hdf hf
                    obtain ⟨e, he⟩ : ∃ e, ys.getD k4 0 = N + 8 * e := ⟨(ys.getD k4 0 - N) / 8, by unfold fits at hf; omega⟩
                    have he2 : e < 63 := by omega
                    obtain ⟨hw1, hw2, hw3⟩ := HR.out.next HK.out H.out.2 hkk4 hlt4 rfl he he2
                    have HW := Lib.hid hw3
                    have HO := Lib.hid (or_shl v4 e hw1 he2)
                    have hdq : (d : Int) / 8 = (e : Int) := by omega
                    have htm0 : ((d : Int).tmod 8) = 0 := by rw [htm]; omega
                    have hd5 : (d : Int) < 504 := by omega
                    clear hw3 hdf hdn hd1 hf hpx HR hdlt he hw1 htm
                    generalize ys.getD k4 0 = x4 at *
                    go_wp2
                    go_roundg g4
                    case measure => omega
                    case rel => exact ⟨k4 + 1, v4 + 2 ^ (e + 1), by omega, by omega, by go_num, vint HO.out, hw2, HW, rfl⟩
                  · have hdd := hdn hf
                    have hnf := Lib.hid hf
                    clear hf hdf hdn hpx
                    by_cases hd8 : d % 8 = 0
                    · have htm0 : ((d : Int).tmod 8) = 0 := by rw [htm]; omega
                      have hd5 : ¬ (d : Int) < 504 := by omega
                      clear htm hdd hd8
                      by_cases hkk4 : k4 = k3
                      · subst hkk4
                        obtain ⟨rfl, hN⟩ := HR.out.none (by omega) (.inr hnf.out) hrun.out
                        have HN := Lib.hid hN
                        clear hN hrun HR
                        clear hnf; generalize ys.getD k4 0 = x4 at *
                        go_wp2
                        go_roundg (ys.length - k4)
                        case measure => omega
                        case rel => exact ⟨k4, o3, ad3, cp3, by omega, vint (by omega), rfl, hown, hbe, by omega, HN⟩
                      · obtain ⟨hv1, hS, hS1, hS2⟩ := HR.out.some (by omega) (by omega) (.inr hnf.out) hrun.out
                        have HS := Lib.hid hS
                        have hv1' : ((v4 : Int) == 1) = false := by rw [beq_eq_false_iff_ne]; omega
                        have HT : Hid (ys.getD (k4 - 1) 0 < N + 504 ∧ N + 504 ≤ ys.getD (k4 - 1) 0 + 504) := Lib.hid (by omega)
                        clear hS hv1 hrun HR hS1 hS2
                        clear hnf; generalize ys.getD k4 0 = x4 at *
                        go_wp2_with (first
                          | (at_builtin; refine wpList_push rfl (.tmp 96) (.tmp 98) slice64 rfl w.heap.size w _ (toI o3) o3.length (v4 : Int) rfl rfl (toI_length o3) hown (by unfold maxLen; omega) (by omega) hbe hsz ?_; intro ad1 cp1 w1 hown1 hbe1; clear hown hbe))
                        go_roundg (ys.length - k4)
                        case measure => omega
                        case rel => exact ⟨k4, N + 504, (nn + 504) % 18446744073709551616, ys.getD (k4 - 1) 0, o3 ++ [v4], ad1, cp1, by omega, by omega, vint (by omega), vint (wrap_504 nn), by omega, Lib.hid (by rw [hnn.out]; omega), by simp, by simpa [toI] using hown1, hbe1, by simp; omega, HS, Lib.hid rfl, HT.out.1, HT.out.2⟩
                    · have htm0 : ¬ ((d : Int).tmod 8) = 0 := by rw [htm]; omega
                      clear htm hdd hd8
                      by_cases hkk4 : k4 = k3
                      · subst hkk4
                        obtain ⟨rfl, hN⟩ := HR.out.none (by omega) (.inr hnf.out) hrun.out
                        have HN := Lib.hid hN
                        clear hN hrun HR
                        clear hnf; generalize ys.getD k4 0 = x4 at *
                        go_wp2
                        go_roundg (ys.length - k4)
                        case measure => omega
                        case rel => exact ⟨k4, o3, ad3, cp3, by omega, vint (by omega), rfl, hown, hbe, by omega, HN⟩
                      · obtain ⟨hv1, hS, hS1, hS2⟩ := HR.out.some (by omega) (by omega) (.inr hnf.out) hrun.out
                        have HS := Lib.hid hS
                        have hv1' : ((v4 : Int) == 1) = false := by rw [beq_eq_false_iff_ne]; omega
                        have HT : Hid (ys.getD (k4 - 1) 0 < N + 504 ∧ N + 504 ≤ ys.getD (k4 - 1) 0 + 504) := Lib.hid (by omega)
                        clear hS hv1 hrun HR hS1 hS2
                        clear hnf; generalize ys.getD k4 0 = x4 at *
                        go_wp2_with (first
                          | (at_builtin; refine wpList_push rfl (.tmp 96) (.tmp 98) slice64 rfl w.heap.size w _ (toI o3) o3.length (v4 : Int) rfl rfl (toI_length o3) hown (by unfold maxLen; omega) (by omega) hbe hsz ?_; intro ad1 cp1 w1 hown1 hbe1; clear hown hbe))
                        go_roundg (ys.length - k4)
                        case measure => omega
                        case rel => exact ⟨k4, N + 504, (nn + 504) % 18446744073709551616, ys.getD (k4 - 1) 0, o3 ++ [v4], ad1, cp1, by omega, by omega, vint (by omega), vint (wrap_504 nn), by omega, Lib.hid (by rw [hnn.out]; omega), by simp, by simpa [toI] using hown1, hbe1, by simp; omega, HS, Lib.hid rfl, HT.out.1, HT.out.2⟩
end Go.Proofs.Ytbmfjchpfhealaa
