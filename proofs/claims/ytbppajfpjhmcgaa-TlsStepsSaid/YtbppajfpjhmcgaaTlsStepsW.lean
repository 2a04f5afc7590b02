/- Layer 18: TlsSteps, of any modules. -/
import Derived.Test.YtbppajfpjhmcgaaTlsUp
import Derived.Test.YtbppajfpjhmcgaaTlsMath
import Derived.BigQuiet
namespace Go.Proofs.Ytbppajfpjhmcgaa
open Go.RowKit
set_option linter.unusedVariables false
set_option linter.unusedSimpArgs false

theorem pick18_any (c : Int) (n : Nat) (w : World) (h0 : -9223372036854775808 ≤ c) (h1 : c < 9223372036854775808) (hn : 1 ≤ n) (hn2 : n < 9223372036854775808) :
    Calls Try.prog 10 #[.int .i64 c, .int .i64 (n : Int)] w fun e w' => ∃ k : Nat, k < n ∧ e = .returned (.int .i64 (k : Int)) ∧ w = w' := by
  have hn0 : (n : Int) ≠ 0 := by omega
  by_cases hc : c < 0
  · obtain ⟨d, hd⟩ : ∃ d : Nat, -(c + 1) = (d : Int) := ⟨(-(c + 1)).toNat, by omega⟩
    have e1 : IntKind.i64.wrap (c + 1) = c + 1 := by rw [IntKind.wrap_i64]; omega
    have e2 : IntKind.i64.wrap (-(c + 1)) = (d : Int) := by rw [IntKind.wrap_i64]; omega
    have e3 : (d : Int).tmod (n : Int) = ((d % n : Nat) : Int) := by rw [Int.tmod_eq_emod_of_nonneg (by omega)]; rfl
    have hk : d % n < n := Nat.mod_lt _ (by omega)
    have hdb : d < 9223372036854775808 := by omega
    generalize d % n = k at *
    clear hd
    go_enter Try.func10, Try.ntmps10
    go_wp2_with fail
    go_ret
    exact ⟨k, hk, rfl, rfl⟩
  · obtain ⟨d, rfl⟩ : ∃ d : Nat, c = (d : Int) := ⟨c.toNat, by omega⟩
    have e3 : (d : Int).tmod (n : Int) = ((d % n : Nat) : Int) := by rw [Int.tmod_eq_emod_of_nonneg (by omega)]; rfl
    have hk : d % n < n := Nat.mod_lt _ (by omega)
    generalize d % n = k at *
    go_enter Try.func10, Try.ntmps10
    go_wp2_with fail
    go_ret
    exact ⟨k, hk, rfl, rfl⟩

theorem MRow.take {w : World} {a : Option Addr} {l : List Md} (h : MRow w a l) (n : Nat) : MRow w a (l.take n) := by
  intro i hi
  have hl : i < l.length := by simp at hi; omega
  have := h i hl
  rw [List.getElem_take]
  exact this
theorem Row.take {k : IntKind} {w : World} {a : Option Addr} {xs : List Int} (h : Row k w a xs) (n : Nat) : Row k w a (xs.take n) := by
  intro i hi
  have hi' : i < n ∧ i < xs.length := by simp at hi; omega
  obtain ⟨b, o, e, hc⟩ := h i hi'.2
  refine ⟨b, o, e, ?_⟩
  rw [hc]
  simp [List.getD, List.getElem?_take, hi'.1]

set_option maxRecDepth 100000 in
set_option maxHeartbeats 8000000 in
theorem steps_at (a : Option Addr) (cap n : Nat) (less : Int) (l : List Md) (w : World) (h : MRow w a l) (hl : l.length = n) (hn : n ≤ 17592186044416) (hcap : n ≤ cap) (h0 : -9223372036854775808 ≤ less) (h1 : less < 9223372036854775808) :
    Calls Try.prog 4 #[.slice a n cap, .int .i64 less] w fun e w' => e = .returned (.bool true) ∧ Below w.heap.size w w' := by
  have H := Lib.hid h
  have HL := Lib.hid hl
  have HN := Lib.hid (And.intro hn hcap)
  have HLESS := Lib.hid (And.intro h0 h1)
  clear h hl hn hcap h0 h1
  go_enter Try.func4, Try.ntmps4
  go_wp2_with (go_at_call 5; refine (up_tls _).mono ?_; rintro e w1 ⟨rfl, hb1⟩; have B1 := Lib.hid hb1; clear hb1)
  refine (layout_any a cap n l w1 (H.out.below B1.out) HL.out HN.out.1).mono ?_
  rintro e w5 ⟨⟨v, he, ho⟩, hb5⟩
  have B5 : Hid (Below w.heap.size w w5) := Lib.hid (B1.out.trans (hb5.mono B1.out.size))
  have B15 := Lib.hid hb5
  clear hb5
  cases hlay : layF l 0 1 with
  | none =>
    rw [hlay] at he
    replace he : e = .returned (.tuple #[.slice none 0 0, .int .u64 0, .int .u64 0, .iface 52 (.int .i64 21)]) := he
    subst he
    clear ho hlay
    go_wp2_with fail
    go_ret
    exact ⟨rfl, B5.out⟩
  | some t =>
    obtain ⟨ys, last, most⟩ := t
    have hll := lay_length hlay
    rw [HL.out] at hll
    rw [hlay] at he ho
    obtain ⟨ad, c, hv, hro, hnc, -⟩ := ho.row
    rw [toI_length, hll] at hv hnc
    subst hv
    replace he : e = .returned (.tuple #[.slice ad n c, .int .u64 (last : Int), .int .u64 (most : Int), .nilIface]) := he
    subst he
    have HRO := Lib.hid hro
    have HLAY := Lib.hid hlay
    have HYL := Lib.hid hll
    have HNC := Lib.hid hnc
    obtain ⟨j, hj, -, hal⟩ := lay_most (i := 0) hlay
    have HMO := Lib.hid (And.intro hj hal)
    clear ho hro hlay hll hnc hj hal
    go_wp2_with fail
    go_loopg [10, 11, 12] n (fun f s10 s11 s12 wr => ∃ k : Nat, s11 = .int .i64 (k : Int) ∧ s10 = .int .u64 (((0 :: ys).getD k 0 : Nat) : Int) ∧ Hid (k + f = n) ∧ Hid (Below w5.heap.size w5 wr))
    case atStart => exact ⟨0, rfl, rfl, Lib.hid (by omega), Lib.hid (Below.refl _ _)⟩
    case round =>
      obtain ⟨k, rfl, rfl, HK, BW⟩ := hrel
      have hk := HK.out
      cases gk with
      | zero =>
        obtain rfl : k = n := by omega
        have hlast := lay_last HLAY.out
        rw [HL.out] at hlast
        rw [← hlast]
        have hkb : (k : Int) ≤ 17592186044416 := by have := HN.out; omega
        have hk0 : (0 : Int) ≤ (k : Int) := by omega
        have HPK : Hid (Calls Try.prog 10 #[.int .i64 less, .int .i64 ((k : Int) + 1)] wr fun e w' => ∃ k2 : Nat, k2 < k + 1 ∧ e = .returned (.int .i64 (k2 : Int)) ∧ wr = w') := Lib.hid (by
          have := pick18_any less (k + 1) wr HLESS.out.1 HLESS.out.2 (by omega) (by omega)
          rwa [show ((k + 1 : Nat) : Int) = (k : Int) + 1 from by omega] at this)
        clear hlast hk HK
        go_wp2_with fail
        refine HPK.out.mono ?_
        rintro e w' ⟨k2, hk2, rfl, rfl⟩
        have i0 : (0 : Int) ≤ (k2 : Int) := by omega
        have i1 : (k2 : Int) ≤ (cap : Int) := by have := HN.out; omega
        have i2 : (k2 : Int) ≤ (c : Int) := by have := HNC.out; omega
        obtain ⟨la, lb, htake⟩ := lay_take HLAY.out k2
        have HLT := Lib.hid htake
        have HK2 : Hid (k2 ≤ k) := Lib.hid (by omega)
        have HLO := Lib.hid (layout_any a cap k2 (l.take k2) wr (((H.out.below B1.out).below (B15.out.trans (BW.out.mono B15.out.size))).take k2) (by rw [List.length_take, HL.out]; omega) (by have := HN.out; omega))
        have HYT : Hid ((toI (ys.take k2)).length = k2) := Lib.hid (by rw [toI_length, List.length_take, HYL.out]; omega)
        clear hk2 htake HPK hkb hk0
        go_wp2_with fail
        refine HLO.out.mono ?_
        rintro e w6 ⟨⟨v6, he, ho⟩, hb6⟩
        rw [HLT.out] at he ho
        obtain ⟨ad6, c6, hv6, hro6, -⟩ := ho.row
        rw [HYT.out] at hv6
        subst hv6
        replace he : e = .returned (.tuple #[.slice ad6 k2 c6, .int .u64 (la : Int), .int .u64 (lb : Int), .nilIface]) := he
        subst he
        have HSM := Lib.hid (same18_any ad6 ad c6 c (toI (ys.take k2)) (toI (ys.take k2)) w6 hro6 (by
          have h1 := (HRO.out.below (BW.out.trans (hb6.mono BW.out.size))).take k2
          rwa [show (toI ys).take k2 = toI (ys.take k2) from by simp [toI, List.map_take]] at h1) (by rw [HYT.out]; have := HN.out; have := HK2.out; unfold maxLen; omega) (by rw [HYT.out]; have := HN.out; have := HK2.out; unfold maxLen; omega))
        rw [HYT.out, show (toI (ys.take k2) == toI (ys.take k2)) = true from beq_self_eq_true _] at HSM
        have B6 : Hid (Below w.heap.size w w6) := Lib.hid ((B5.out.trans (BW.out.mono B5.out.size)).trans (hb6.mono (Nat.le_trans B5.out.size BW.out.size)))
        clear ho hro6 hb6 HLO
        go_wp2_with (go_at_call 8; refine HSM.out.mono ?_; rintro e w7 ⟨rfl, hb7⟩; have B7 := Lib.hid hb7; clear hb7)
        go_ret
        exact ⟨rfl, B6.out.trans (B7.out.mono B6.out.size)⟩
      | succ f =>
        have hkn : (k : Int) < (n : Int) := by omega
        have hkl : k < l.length := by rw [HL.out]; omega
        obtain ⟨y, y1, y2, y3, y4, y5, y6, y7, y8⟩ := lay_at HLAY.out (by omega) k hkl
        obtain ⟨kk, g1, g2⟩ := HMO.out.2 l[k] (List.getElem_mem hkl)
        have y9 : most % max 1 l[k].al = 0 := by rw [HMO.out.1, g1]; exact mod_pow g2
        have hbw : Below w1.heap.size w1 wr := B15.out.trans (BW.out.mono B15.out.size)
        obtain ⟨b, o, ia, ic, rfl, hlt, q0, q1, q2, -⟩ := ((H.out.below B1.out).below hbw) k hkl
        obtain ⟨b2, o2, rfl, hq3⟩ := HRO.out k (by rw [toI_length, HYL.out]; omega)
        have hb2 : b2 < w5.heap.size := by simpa using World.block_lt_of_cell? w5 _ hq3
        have q3 : wr.cell? ⟨b2, o2 + k, none⟩ = some (.int .u64 (y : Int)) := by
          rw [BW.out.cell (p := ⟨b2, o2 + k, none⟩) hb2, hq3, toI_getD]
          simp [List.getD, y1]
        have HKF : Hid (k + 1 + f = n) := Lib.hid (by omega)
        have HB2 : Hid (b2 < wr.heap.size) := Lib.hid (Nat.lt_of_lt_of_le hb2 BW.out.size)
        have HY : Hid ((0 :: ys).getD (k + 1) 0 = y) := Lib.hid (by simp [List.getD, y1])
        have hnc : (n : Int) ≤ (c : Int) := by have := HNC.out; omega
        have hnb : (n : Int) ≤ 17592186044416 := by have := HN.out; omega
        generalize l[k] = md at *
        obtain ⟨il, sz, al⟩ := md
        simp only at q0 q1 q2 y2 y3 y4 y5 y6 y9
        generalize (0 :: ys).getD k 0 = x at *
        clear hkl y1 g1 g2 hbw hlt hq3 hb2 hk HK
        obtain ⟨A, hA⟩ : ∃ A, max 1 al = A := ⟨_, rfl⟩
        by_cases hz : al = 0
        · subst hz
          have HAV : Hid (max 1 0 = 1) := Lib.hid (by omega)
          rw [HAV.out] at y2 y4 y5 y9
          clear hA HAV
          have f0 : ¬ ((1 : Int) = 0) := by omega
          have f1 : (y : Int).tmod 1 = 0 := by simp
          have f6 : (most : Int).tmod 1 = 0 := by simp
          obtain ⟨s1, hs1⟩ : ∃ s1, x + sz = s1 := ⟨_, rfl⟩
          obtain ⟨s2, hs2⟩ : ∃ s2, s1 + 1 = s2 := ⟨_, rfl⟩
          have f2 : IntKind.u64.wrap ((x : Int) + (sz : Int)) = (s1 : Int) := by rw [IntKind.wrap_u64]; omega
          have f4 : IntKind.u64.wrap ((s1 : Int) + 1) = (s2 : Int) := by rw [IntKind.wrap_u64]; omega
          have f7 : decide (y < s1) = false := decide_eq_false (by omega)
          have f8 : decide (s2 ≤ y) = false := decide_eq_false (by omega)
          clear y2 y3 y4 y5 y6 y7 y8 y9 hs1 hs2
          go_wp2_with fail
          go_quiet (fail)
          have hBD : Below wr.heap.size wr (wr.drewN nq) := below_drewN (Below.refl _ _) _
          have q4 : (wr.drewN nq).cell? ⟨b2, o2 + k, none⟩ = some (.int .u64 (y : Int)) := by rw [hBD.cell (p := ⟨b2, o2 + k, none⟩) HB2.out]; exact q3
          have BN := Lib.hid (BW.out.trans (hBD.mono BW.out.size))
          generalize wr.drewN nq = wd at q4 BN ⊢
          clear hBD q0 q1 q2 q3 f0 f1 f2 f4 f6 f7 f8
          go_wp2_with fail
          go_roundg f
          case measure => omega
          case rel => exact ⟨k + 1, by go_num, by rw [HY.out], HKF, BN⟩
        · have hz2 : ¬ (al : Int) = 0 := by omega
          have HAV : Hid (max 1 al = al) := Lib.hid (by omega)
          rw [HAV.out] at y2 y4 y5 y9
          clear hA HAV
          have f0 : ¬ ((al : Int) = 0) := by omega
          have f1 : (y : Int).tmod (al : Int) = 0 := by rw [Int.tmod_eq_emod_of_nonneg (by omega)]; omega
          have f6 : (most : Int).tmod (al : Int) = 0 := by rw [Int.tmod_eq_emod_of_nonneg (by omega)]; omega
          obtain ⟨s1, hs1⟩ : ∃ s1, x + sz = s1 := ⟨_, rfl⟩
          obtain ⟨s2, hs2⟩ : ∃ s2, s1 + al = s2 := ⟨_, rfl⟩
          have f2 : IntKind.u64.wrap ((x : Int) + (sz : Int)) = (s1 : Int) := by rw [IntKind.wrap_u64]; omega
          have f4 : IntKind.u64.wrap ((s1 : Int) + (al : Int)) = (s2 : Int) := by rw [IntKind.wrap_u64]; omega
          have f7 : decide (y < s1) = false := decide_eq_false (by omega)
          have f8 : decide (s2 ≤ y) = false := decide_eq_false (by omega)
          clear y2 y3 y4 y5 y6 y7 y8 y9 hs1 hs2
          go_wp2_with fail
          go_quiet (fail)
          have hBD : Below wr.heap.size wr (wr.drewN nq) := below_drewN (Below.refl _ _) _
          have q4 : (wr.drewN nq).cell? ⟨b2, o2 + k, none⟩ = some (.int .u64 (y : Int)) := by rw [hBD.cell (p := ⟨b2, o2 + k, none⟩) HB2.out]; exact q3
          have BN := Lib.hid (BW.out.trans (hBD.mono BW.out.size))
          generalize wr.drewN nq = wd at q4 BN ⊢
          clear hBD q0 q1 q2 q3 f0 f1 f2 f4 f6 f7 f8
          go_wp2_with fail
          go_roundg f
          case measure => omega
          case rel => exact ⟨k + 1, by go_num, by rw [HY.out], HKF, BN⟩
end Go.Proofs.Ytbppajfpjhmcgaa
