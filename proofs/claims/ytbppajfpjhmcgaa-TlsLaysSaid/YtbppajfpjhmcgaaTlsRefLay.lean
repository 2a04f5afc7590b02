/- Layer 18: the document's answer for the layout, of any modules. Printed by wip/tools/p_rlay.py. -/
import Derived.Test.YtbppajfpjhmcgaaTlsLay
import Derived.Test.YtbppajfpjhmcgaaTlsMath
import Derived.Deep.DeepCutAuto
import Derived.BigQuiet
namespace Go.Proofs.Ytbppajfpjhmcgaa
open Go.RowKit
set_option linter.unusedVariables false
set_option linter.unusedSimpArgs false

/-- is a number one of the first i powers of two? -/
def powB (A : Nat) : Nat → Bool
  | 0 => false
  | i + 1 => powB A i || (2 ^ i == A)
theorem powB_iff (A : Nat) : ∀ i, powB A i = true ↔ ∃ j, j < i ∧ A = 2 ^ j
  | 0 => by simp [powB]
  | i + 1 => by
    rw [powB, Bool.or_eq_true, powB_iff A i, beq_iff_eq]
    constructor
    · rintro (⟨j, h1, h2⟩ | h)
      · exact ⟨j, by omega, h2⟩
      · exact ⟨i, by omega, h.symm⟩
    · rintro ⟨j, h1, h2⟩
      by_cases e : j = i
      · subst e; exact .inr h2.symm
      · exact .inl ⟨j, by omega, h2⟩
theorem powB_pop {A : Nat} : powB A 13 = true ↔ Pop.pop A = 1 ∧ A ≤ 4096 := by
  rw [powB_iff]
  constructor
  · rintro ⟨j, h1, rfl⟩
    refine ⟨Pop.pop_pow ⟨j, by omega⟩, ?_⟩
    have : 2 ^ j ≤ 2 ^ 12 := Nat.pow_le_pow_right (by omega) (by omega)
    omega
  · rintro ⟨h1, h2⟩
    obtain ⟨i, hi, rfl⟩ := Pop.pop_one A (by omega) h1
    refine ⟨i, ?_, rfl⟩
    by_cases h : i < 13
    · exact h
    · have : 2 ^ 13 ≤ 2 ^ i := Nat.pow_le_pow_right (by omega) (by omega)
      omega
/-- the least multiple from a number on -/
theorem ceil_le {z A v : Nat} (hA : 1 ≤ A) (h1 : z ≤ v) (h2 : v % A = 0) : (z + (A - 1)) / A * A ≤ v := by
  have h3 := Nat.div_add_mod v A
  rw [h2, Nat.add_zero] at h3
  have : (z + (A - 1)) / A < v / A + 1 := by
    rw [Nat.div_lt_iff_lt_mul (by omega), Nat.add_mul, Nat.one_mul, Nat.mul_comm (v / A)]
    omega
  calc (z + (A - 1)) / A * A ≤ v / A * A := Nat.mul_le_mul_right _ (by omega)
    _ = v := by rw [Nat.mul_comm]; exact h3
theorem ceil_ge {z A : Nat} (hA : 1 ≤ A) : z ≤ (z + (A - 1)) / A * A ∧ (z + (A - 1)) / A * A ≤ z + (A - 1) := by
  have h3 := Nat.div_add_mod (z + (A - 1)) A
  have h4 := Nat.mod_lt (z + (A - 1)) (show A > 0 by omega)
  rw [Nat.mul_comm] at h3
  omega
def rlayE : Option (List Nat × Nat × Nat) → Value → Value
  | none, _ => .tuple #[.slice none 0 0, .int .u64 0, .int .u64 0, .int .i64 21]
  | some t, v => .tuple #[v, .int .u64 (t.2.1 : Int), .int .u64 (t.2.2 : Int), .int .i64 0]
/-- what the document's Layout answers -/
def RLayAns (R : Option (List Nat × Nat × Nat)) (w : World) (e : Ending) (w' : World) : Prop := (∃ v, e = .returned (rlayE R v) ∧ OwnI w' w.heap.size 25 .u64 v (toI (match R with | none => [] | some t => t.1))) ∧ Below w.heap.size w w'

set_option maxRecDepth 100000 in
set_option maxHeartbeats 16000000 in
theorem reflay_any (a : Option Addr) (cap n : Nat) (l : List Md) (w : World) (h : MRow w a l) (hl : l.length = n) (hn : n ≤ 17592186044416) :
    Calls Try.prog 7 #[.slice a n cap] w (RLayAns (layF l 0 1) w) := by
  obtain ⟨R, hR⟩ : ∃ R, layF l 0 1 = R := ⟨_, rfl⟩
  have HR0 : Hid ((layF (l.drop 0) 0 1).map (fun t => (([] : List Nat) ++ t.1, t.2)) = R) := Lib.hid (by rw [List.drop_zero, hR]; cases R <;> rfl)
  have H := Lib.hid h
  have HL := Lib.hid hl
  have HNN := Lib.hid hn
  have O0 : Hid (OwnI w w.heap.size 25 .u64 (.slice none 0 0) (toI ([] : List Nat))) := Lib.hid (OwnI.nil _ _ _ _)
  rw [hR]
  clear h hl hn hR
  go_enter Try.func7, Try.ntmps7
  go_wp2_with fail
  go_loopg [6, 7, 8, 9, 10, 11, 12] n (fun f s6 s7 s8 s9 s10 s11 s12 wr => ∃ (k x mo : Nat) (told : List Nat), s9 = .int .i64 (k : Int) ∧ s7 = .int .u64 (x : Int) ∧ s8 = .int .u64 (mo : Int) ∧ (∃ ad c, s6 = .slice ad told.length c ∧ Hid (OwnI wr w.heap.size 25 .u64 (.slice ad told.length c) (toI told))) ∧ Hid (k + f = n ∧ x ≤ 1048576 ∧ told.length = k ∧ (1 ≤ mo ∧ mo ≤ 4096) ∧ (layF (l.drop k) x mo).map (fun t => (told ++ t.1, t.2)) = R) ∧ Hid (Below w.heap.size w wr))
  case atStart => exact ⟨0, 0, 1, [], rfl, rfl, rfl, ⟨none, 0, rfl, O0⟩, Lib.hid ⟨by omega, by omega, rfl, ⟨by omega, by omega⟩, HR0.out⟩, Lib.hid (Below.refl _ _)⟩
  case round =>
    clear HR0 O0
    obtain ⟨k, x, mo, told, rfl, rfl, rfl, ⟨ad, c, rfl, HO⟩, HK, HB⟩ := hrel
    obtain ⟨hk1, hk2, hk3, hk5, hk4⟩ := HK.out
    cases gk with
    | zero =>
      have hke : k = n := by omega
      have HF : Hid (R = some (told, x, mo)) := Lib.hid (by rw [← hk4, List.drop_of_length_le (by rw [HL.out]; omega)]; simp [layF])
      clear hk1 hk2 hk3 hk4 hk5 HK
      subst hke
      generalize told.length = tn at *
      go_wp2_with fail
      refine bodyPost_ret (results_four rfl _ _ _) rfl ?_
      rw [HF.out]
      exact ⟨⟨_, rfl, HO.out⟩, HB.out⟩
    | succ f =>
      have hkn : (k : Int) < (n : Int) := by omega
      have hkl : k < l.length := by rw [HL.out]; omega
      obtain ⟨b, o, ia, ic, rfl, hlt, q0, q1, q2, hb1, hb2, hb3⟩ := (H.out.below HB.out) k hkl
      have hd : l.drop k = l[k] :: l.drop (k + 1) := List.drop_eq_getElem_cons hkl
      rw [hd, layF] at hk4
      generalize l[k] = md at *
      obtain ⟨il, sz, al⟩ := md
      simp only at q0 q1 q2 hb1 hb2 hb3
      have HLT := Lib.hid hlt
      have HK9 : Hid (k + f + 1 = n ∧ told.length = k ∧ 1 ≤ mo ∧ mo ≤ 4096 ∧ x ≤ 1048576 ∧ il ≤ 140737488355328 ∧ sz < 18446744073709551616) := Lib.hid (by omega)
      have HK4 := Lib.hid hk4
      have HO2 : Hid (w.heap.size ≤ wr.heap.size) := Lib.hid HB.out.size
      have hk64 : (k : Int) ≤ 17592186044416 := by have := HNN.out; omega
      clear hd hkl hlt hk1 hk2 hk3 hk4 hk5 HK
      by_cases hz0 : al = 0
      · subst hz0
        have HMF : Hid (modF ⟨il, sz, 0⟩ x = if Pop.pop 1 ≠ 1 ∨ 4096 < 1 ∨ sz < il ∨ 1048576 < sz then none else if 1048576 < (x + sz + (1 - 1)) / 1 * 1 then none else some ((x + sz + (1 - 1)) / 1 * 1)) := Lib.hid (by
          unfold modF
          rw [show max 1 0 = 1 from by omega])
        have HMX : Hid (max mo (max 1 0) = max mo 1) := Lib.hid (by rw [show max 1 0 = 1 from by omega])
        have HA1 : Hid (1 ≤ 1 ∧ 1 < 18446744073709551616) := Lib.hid (by omega)
        clear hb1 hb2 hb3
        go_upto_region 12 with fail
        go_loopg [11, 12] 13 (fun g s11 s12 wq => ∃ (i t : Nat), s12 = .int .u64 (t : Int) ∧ s11 = .bool (powB 1 i) ∧ Hid (i + g = 13 ∧ t = 2 ^ i) ∧ wr = wq)
        case atStart => exact ⟨0, 1, rfl, rfl, Lib.hid ⟨by omega, rfl⟩, rfl⟩
        case round =>
          obtain ⟨i, t, rfl, rfl, HT, rfl⟩ := hrel
          obtain ⟨ht1, ht2⟩ := HT.out
          cases gk with
          | zero =>
            have hi13 : i = 13 := by omega
            have ht8 : t = 8192 := by rw [hi13] at ht2; exact ht2
            clear ht1 ht2 HT
            subst hi13
            subst ht8
            obtain ⟨PB, hPB⟩ : ∃ PB, powB 1 13 = PB := ⟨_, rfl⟩
            rw [hPB]
            have HPB : Hid (PB = true ↔ Pop.pop 1 = 1 ∧ 1 ≤ 4096) := Lib.hid (by rw [← hPB]; exact powB_pop)
            clear hPB
            have e1 : IntKind.u64.wrap (il : Int) = (il : Int) := by have := HK9.out; rw [IntKind.wrap_u64]; omega
            have i0 : (0 : Int) ≤ (k : Int) := by omega
            cases PB with
            | false =>
              have HRN : Hid (R = none) := Lib.hid (by
                rw [← HK4.out, HMF.out, if_pos (by
                  by_cases h1 : Pop.pop 1 = 1
                  · by_cases h2 : 1 ≤ 4096
                    · exact absurd (HPB.out.2 ⟨h1, h2⟩) (by simp)
                    · exact .inr (.inl (by omega))
                  · exact .inl h1)]
                rfl)
              go_wp2_with fail
              go_quiet (fail)
              have hBD : Below wr.heap.size wr (wr.drewN nq) := below_drewN (Below.refl _ _) _
              have BN := Lib.hid (HB.out.trans (hBD.mono HB.out.size))
              generalize wr.drewN nq = wd at BN ⊢
              clear hBD q0 q1 q2
              go_wp2_with fail
              refine bodyPost_ret (results_four rfl _ _ _) rfl ?_
              rw [HRN.out]
              exact ⟨⟨.slice none 0 0, rfl, OwnI.nil _ _ _ _⟩, BN.out⟩
            | true =>
              obtain ⟨hp1, hp2⟩ := HPB.out.1 rfl
              have HP := Lib.hid (And.intro hp1 hp2)
              clear hp1 hp2
              by_cases c3 : sz < il
              · have c3i : decide (sz < il) = true := decide_eq_true c3
                have HRN : Hid (R = none) := Lib.hid (by rw [← HK4.out, HMF.out, if_pos (.inr (.inr (.inl c3)))]; rfl)
                clear c3
                go_wp2_with fail
                go_quiet (fail)
                have hBD : Below wr.heap.size wr (wr.drewN nq) := below_drewN (Below.refl _ _) _
                have BN := Lib.hid (HB.out.trans (hBD.mono HB.out.size))
                generalize wr.drewN nq = wd at BN ⊢
                clear hBD q0 q1 q2
                go_wp2_with fail
                refine bodyPost_ret (results_four rfl _ _ _) rfl ?_
                rw [HRN.out]
                exact ⟨⟨.slice none 0 0, rfl, OwnI.nil _ _ _ _⟩, BN.out⟩
              · have c3i : decide (sz < il) = false := decide_eq_false c3
                by_cases c4 : 1048576 < sz
                · have c4i : decide ((1048576 : Int) < (sz : Int)) = true := decide_eq_true (by omega)
                  have c4j : decide (1048576 < sz) = true := decide_eq_true c4
                  have HRN : Hid (R = none) := Lib.hid (by rw [← HK4.out, HMF.out, if_pos (.inr (.inr (.inr c4)))]; rfl)
                  clear c3 c4
                  go_wp2_with fail
                  go_quiet (fail)
                  have hBD : Below wr.heap.size wr (wr.drewN nq) := below_drewN (Below.refl _ _) _
                  have BN := Lib.hid (HB.out.trans (hBD.mono HB.out.size))
                  generalize wr.drewN nq = wd at BN ⊢
                  clear hBD q0 q1 q2
                  go_wp2_with fail
                  refine bodyPost_ret (results_four rfl _ _ _) rfl ?_
                  rw [HRN.out]
                  exact ⟨⟨.slice none 0 0, rfl, OwnI.nil _ _ _ _⟩, BN.out⟩
                · have c4i : decide ((1048576 : Int) < (sz : Int)) = false := decide_eq_false (by omega)
                  have c4j : decide (1048576 < sz) = false := decide_eq_false c4
                  have HC : Hid (modF ⟨il, sz, 0⟩ x = if 1048576 < (x + sz + (1 - 1)) / 1 * 1 then none else some ((x + sz + (1 - 1)) / 1 * 1)) := Lib.hid (by rw [HMF.out, if_neg (by have := HP.out; rintro (h | h | h | h) <;> omega)])
                  have HS4 : Hid (sz ≤ 1048576) := Lib.hid (by omega)
                  clear c3 c4 HMF
                  go_wp2_with fail
                  go_quiet (fail)
                  have hBD : Below wr.heap.size wr (wr.drewN nq) := below_drewN (Below.refl _ _) _
                  have q1b : (wr.drewN nq).cell? ⟨b, o + k * 3 + 1, none⟩ = some (.int .u64 (sz : Int)) := by rw [hBD.cell (p := ⟨b, o + k * 3 + 1, none⟩) HLT.out]; exact q1
                  have BN := Lib.hid (HB.out.trans (hBD.mono HB.out.size))
                  have ON := Lib.hid (HO.out.below hBD)
                  have WN : Hid (w.heap.size ≤ (wr.drewN nq).heap.size) := Lib.hid (Nat.le_trans HB.out.size hBD.size)
                  generalize wr.drewN nq = wd at q1b BN ON WN ⊢
                  clear hBD q0 q1 q2 c3i c4i c4j e1
                  obtain ⟨z, hz⟩ : ∃ z, x + sz = z := ⟨_, rfl⟩
                  rw [hz] at HC
                  have e5 : IntKind.u64.wrap ((x : Int) + (sz : Int)) = (z : Int) := by have := HK9.out; have := HS4.out; rw [IntKind.wrap_u64]; omega
                  have HZB : Hid (z ≤ 2097152) := Lib.hid (by have := HK9.out; have := HS4.out; omega)
                  obtain ⟨X, hX⟩ : ∃ X, (z + (1 - 1)) / 1 * 1 = X := ⟨_, rfl⟩
                  have hcg := ceil_ge (z := z) HA1.out.1
                  rw [hX] at hcg
                  have HCL : Hid (∀ v, z ≤ v → v % 1 = 0 → X ≤ v) := Lib.hid (fun v h1 h2 => by rw [← hX]; exact ceil_le HA1.out.1 h1 h2)
                  have HXM : Hid (X % 1 = 0 ∧ z ≤ X ∧ X ≤ z + (1 - 1)) := Lib.hid ⟨by rw [← hX]; exact Nat.mul_mod_left _ _, hcg.1, hcg.2⟩
                  rw [hX] at HC
                  clear hX hcg hz
                  have a0 : ¬ 1 = 0 := by have := HA1.out; omega
                  go_upto_region 18 with fail
                  clear e5 q1b
                  go_loopg [7] (X - z) (fun g s7 wq => ∃ v : Nat, s7 = .int .u64 (v : Int) ∧ Hid (v + g = X ∧ z ≤ v) ∧ wd = wq)
                  case atStart => exact ⟨z, rfl, Lib.hid (by have := HXM.out; omega), rfl⟩
                  case round =>
                    obtain ⟨v, rfl, HV, rfl⟩ := hrel
                    obtain ⟨hv1, hv2⟩ := HV.out
                    cases gk with
                    | zero =>
                      obtain rfl : v = X := by omega
                      have m1 : (v : Int).tmod 1 = 0 := by simp
                      clear hv1 hv2 HV
                      by_cases c5 : 1048576 < v
                      · have c5i : (1048576 : Int) < (v : Int) := by omega
                        have HRN : Hid (R = none) := Lib.hid (by rw [← HK4.out, HC.out, if_pos c5]; rfl)
                        go_wp2_with fail
                        refine bodyPost_ret (results_four rfl _ _ _) rfl ?_
                        rw [HRN.out]
                        exact ⟨⟨.slice none 0 0, rfl, OwnI.nil _ _ _ _⟩, BN.out⟩
                      · have c5i : ¬ (1048576 : Int) < (v : Int) := by omega
                        have HX := Lib.hid c5
                        have hk4 := HK4.out
                        rw [HC.out, if_neg c5] at hk4
                        simp only at hk4
                        rw [HMX.out] at hk4
                        have HL4 := Lib.hid hk4
                        obtain ⟨tn, htn⟩ : ∃ tn, told.length = tn := ⟨_, rfl⟩
                        rw [htn] at ON ⊢
                        have HTN := Lib.hid htn
                        have HTI : Hid ((toI told).length = tn) := Lib.hid (by rw [toI_length]; exact htn)
                        have HTL : Hid ((tn + 1) ≤ maxLen ∧ (tn + 1) * 8 ≤ 140737488355328) := Lib.hid (by have := HK9.out; have := HNN.out; unfold maxLen; omega)
                        clear htn hk4 c5
                        by_cases c6 : mo < 1
                        · have c6i : (mo : Int) < 1 := by omega
                          have HC6 : Hid (mo < 1) := Lib.hid c6
                          clear c6
                          go_wp2_with (at_builtin; refine wpList_push rfl (.tmp 80) (.tmp 82) slice64t rfl w.heap.size w (.slice ad tn c) (toI told) tn (v : Int) rfl (by rfl) HTI.out ON.out HTL.out.1 HTL.out.2 (BN.out) WN.out ?_; intro ad6 c6' w6 hown6 hbe6; have O6 := Lib.hid hown6; have HB6 := Lib.hid hbe6; clear hown6 hbe6)
                          go_roundg f
                          case measure => omega
                          case rel =>
                            refine ⟨k + 1, v, 1, told ++ [v], by go_num, rfl, rfl, ⟨ad6, c6', by rw [List.length_append, HTN.out]; rfl, Lib.hid ?_⟩, Lib.hid ⟨by have := HK9.out; omega, by have := HX.out; omega, by rw [List.length_append]; have := HK9.out; simp; omega, by have := HK9.out; have := HP.out; have := HC6.out; have := HA1.out; omega, ?_⟩, HB6⟩
                            · rw [List.length_append, HTN.out]
                              have := O6.out
                              rw [show toI told ++ [(v : Int)] = toI (told ++ [v]) from by rw [toI_append]; rfl] at this
                              exact this
                            · have h9 := HL4.out
                              rw [show max mo 1 = 1 from by have := HC6.out; omega] at h9
                              rw [← h9]
                              cases layF (l.drop (k + 1)) v 1 with
                              | none => rfl
                              | some t => simp
                        · have c6i : ¬ (mo : Int) < 1 := by omega
                          have HC6 : Hid (¬ mo < 1) := Lib.hid c6
                          clear c6
                          go_wp2_with (at_builtin; refine wpList_push rfl (.tmp 80) (.tmp 82) slice64t rfl w.heap.size w (.slice ad tn c) (toI told) tn (v : Int) rfl (by rfl) HTI.out ON.out HTL.out.1 HTL.out.2 (BN.out) WN.out ?_; intro ad6 c6' w6 hown6 hbe6; have O6 := Lib.hid hown6; have HB6 := Lib.hid hbe6; clear hown6 hbe6)
                          go_roundg f
                          case measure => omega
                          case rel =>
                            refine ⟨k + 1, v, mo, told ++ [v], by go_num, rfl, rfl, ⟨ad6, c6', by rw [List.length_append, HTN.out]; rfl, Lib.hid ?_⟩, Lib.hid ⟨by have := HK9.out; omega, by have := HX.out; omega, by rw [List.length_append]; have := HK9.out; simp; omega, by have := HK9.out; have := HP.out; have := HC6.out; have := HA1.out; omega, ?_⟩, HB6⟩
                            · rw [List.length_append, HTN.out]
                              have := O6.out
                              rw [show toI told ++ [(v : Int)] = toI (told ++ [v]) from by rw [toI_append]; rfl] at this
                              exact this
                            · have h9 := HL4.out
                              rw [show max mo 1 = mo from by have := HC6.out; omega] at h9
                              rw [← h9]
                              cases layF (l.drop (k + 1)) v mo with
                              | none => rfl
                              | some t => simp
                    | succ g =>
                      obtain ⟨r, hr⟩ : ∃ r, v % 1 = r := ⟨_, rfl⟩
                      have hr0 : r ≠ 0 := fun e => by
                        have := HCL.out v hv2 (by omega)
                        omega
                      have m1 : (v : Int).tmod 1 = (r : Int) := by rw [← hr, Int.tmod_eq_emod_of_nonneg (by omega)]; rfl
                      have m2 : ((r : Int) != 0) = true := by rw [bne_iff_ne]; omega
                      have e7 : IntKind.u64.wrap ((v : Int) + 1) = ((v + 1 : Nat) : Int) := by have := HXM.out; have := HZB.out; have := HP.out; rw [IntKind.wrap_u64]; omega
                      have HV2 : Hid (v + 1 + g = X ∧ z ≤ v + 1) := Lib.hid (by omega)
                      clear hv1 hv2 hr hr0 HV
                      generalize v + 1 = v2 at *
                      go_wp2_with fail
                      go_roundg g
                      case measure => omega
                      case rel => exact ⟨v2, rfl, HV2, rfl⟩
          | succ g =>
            have ht3 : t ≤ 4096 := by
              have : 2 ^ i ≤ 2 ^ 12 := Nat.pow_le_pow_right (by omega) (by omega)
              omega
            have t1 : (t : Int) ≤ 4096 := by omega
            have e2 : IntKind.u64.wrap (2 * (t : Int)) = ((2 * t : Nat) : Int) := by rw [IntKind.wrap_u64]; omega
            have HT2 : Hid (i + 1 + g = 13 ∧ 2 * t = 2 ^ (i + 1)) := Lib.hid ⟨by omega, by rw [Nat.pow_succ]; omega⟩
            have HPS : Hid (powB 1 (i + 1) = (powB 1 i || (t == 1))) := Lib.hid (by rw [powB, ht2])
            clear ht1 ht2 ht3 HT
            generalize 2 * t = t2 at *
            obtain ⟨pb, hpb⟩ : ∃ pb, powB 1 i = pb := ⟨_, rfl⟩
            rw [hpb] at HPS ⊢
            clear hpb
            cases pb with
            | true =>
              go_wp2_with fail
              go_roundg g
              case measure => omega
              case rel => exact ⟨i + 1, t2, rfl, by rw [HPS.out]; rfl, HT2, rfl⟩
            | false =>
              by_cases hta : t = 1
              · have h1 : ((t : Int) == 1) = true := by rw [hta]; simp
                have h2 : (t == 1) = true := by rw [hta]; simp
                have HPT : Hid (powB 1 (i + 1) = true) := Lib.hid (by rw [HPS.out, h2]; rfl)
                clear hta
                go_wp2_with fail
                go_roundg g
                case measure => omega
                case rel => exact ⟨i + 1, t2, rfl, by rw [HPT.out], HT2, rfl⟩
              · have h1 : ((t : Int) == 1) = false := by
                  rw [beq_eq_false_iff_ne]; omega
                have h2 : (t == 1) = false := by rw [beq_eq_false_iff_ne]; exact hta
                have HPT : Hid (powB 1 (i + 1) = false) := Lib.hid (by rw [HPS.out, h2]; rfl)
                clear hta
                go_wp2_with fail
                go_roundg g
                case measure => omega
                case rel => exact ⟨i + 1, t2, rfl, by rw [HPT.out], HT2, rfl⟩
      · have hz1 : ¬ (al : Int) = 0 := by omega
        have HMF : Hid (modF ⟨il, sz, al⟩ x = if Pop.pop al ≠ 1 ∨ 4096 < al ∨ sz < il ∨ 1048576 < sz then none else if 1048576 < (x + sz + (al - 1)) / al * al then none else some ((x + sz + (al - 1)) / al * al)) := Lib.hid (by
          unfold modF
          rw [show max 1 al = al from by omega])
        have HMX : Hid (max mo (max 1 al) = max mo al) := Lib.hid (by rw [show max 1 al = al from by omega])
        have HA1 : Hid (1 ≤ al ∧ al < 18446744073709551616) := Lib.hid (by omega)
        clear hb1 hb2 hb3
        go_upto_region 12 with fail
        go_loopg [11, 12] 13 (fun g s11 s12 wq => ∃ (i t : Nat), s12 = .int .u64 (t : Int) ∧ s11 = .bool (powB al i) ∧ Hid (i + g = 13 ∧ t = 2 ^ i) ∧ wr = wq)
        case atStart => exact ⟨0, 1, rfl, rfl, Lib.hid ⟨by omega, rfl⟩, rfl⟩
        case round =>
          obtain ⟨i, t, rfl, rfl, HT, rfl⟩ := hrel
          obtain ⟨ht1, ht2⟩ := HT.out
          cases gk with
          | zero =>
            have hi13 : i = 13 := by omega
            have ht8 : t = 8192 := by rw [hi13] at ht2; exact ht2
            clear ht1 ht2 HT
            subst hi13
            subst ht8
            obtain ⟨PB, hPB⟩ : ∃ PB, powB al 13 = PB := ⟨_, rfl⟩
            rw [hPB]
            have HPB : Hid (PB = true ↔ Pop.pop al = 1 ∧ al ≤ 4096) := Lib.hid (by rw [← hPB]; exact powB_pop)
            clear hPB
            have e1 : IntKind.u64.wrap (il : Int) = (il : Int) := by have := HK9.out; rw [IntKind.wrap_u64]; omega
            have i0 : (0 : Int) ≤ (k : Int) := by omega
            cases PB with
            | false =>
              have HRN : Hid (R = none) := Lib.hid (by
                rw [← HK4.out, HMF.out, if_pos (by
                  by_cases h1 : Pop.pop al = 1
                  · by_cases h2 : al ≤ 4096
                    · exact absurd (HPB.out.2 ⟨h1, h2⟩) (by simp)
                    · exact .inr (.inl (by omega))
                  · exact .inl h1)]
                rfl)
              go_wp2_with fail
              go_quiet (fail)
              have hBD : Below wr.heap.size wr (wr.drewN nq) := below_drewN (Below.refl _ _) _
              have BN := Lib.hid (HB.out.trans (hBD.mono HB.out.size))
              generalize wr.drewN nq = wd at BN ⊢
              clear hBD q0 q1 q2
              go_wp2_with fail
              refine bodyPost_ret (results_four rfl _ _ _) rfl ?_
              rw [HRN.out]
              exact ⟨⟨.slice none 0 0, rfl, OwnI.nil _ _ _ _⟩, BN.out⟩
            | true =>
              obtain ⟨hp1, hp2⟩ := HPB.out.1 rfl
              have HP := Lib.hid (And.intro hp1 hp2)
              clear hp1 hp2
              by_cases c3 : sz < il
              · have c3i : decide (sz < il) = true := decide_eq_true c3
                have HRN : Hid (R = none) := Lib.hid (by rw [← HK4.out, HMF.out, if_pos (.inr (.inr (.inl c3)))]; rfl)
                clear c3
                go_wp2_with fail
                go_quiet (fail)
                have hBD : Below wr.heap.size wr (wr.drewN nq) := below_drewN (Below.refl _ _) _
                have BN := Lib.hid (HB.out.trans (hBD.mono HB.out.size))
                generalize wr.drewN nq = wd at BN ⊢
                clear hBD q0 q1 q2
                go_wp2_with fail
                refine bodyPost_ret (results_four rfl _ _ _) rfl ?_
                rw [HRN.out]
                exact ⟨⟨.slice none 0 0, rfl, OwnI.nil _ _ _ _⟩, BN.out⟩
              · have c3i : decide (sz < il) = false := decide_eq_false c3
                by_cases c4 : 1048576 < sz
                · have c4i : decide ((1048576 : Int) < (sz : Int)) = true := decide_eq_true (by omega)
                  have c4j : decide (1048576 < sz) = true := decide_eq_true c4
                  have HRN : Hid (R = none) := Lib.hid (by rw [← HK4.out, HMF.out, if_pos (.inr (.inr (.inr c4)))]; rfl)
                  clear c3 c4
                  go_wp2_with fail
                  go_quiet (fail)
                  have hBD : Below wr.heap.size wr (wr.drewN nq) := below_drewN (Below.refl _ _) _
                  have BN := Lib.hid (HB.out.trans (hBD.mono HB.out.size))
                  generalize wr.drewN nq = wd at BN ⊢
                  clear hBD q0 q1 q2
                  go_wp2_with fail
                  refine bodyPost_ret (results_four rfl _ _ _) rfl ?_
                  rw [HRN.out]
                  exact ⟨⟨.slice none 0 0, rfl, OwnI.nil _ _ _ _⟩, BN.out⟩
                · have c4i : decide ((1048576 : Int) < (sz : Int)) = false := decide_eq_false (by omega)
                  have c4j : decide (1048576 < sz) = false := decide_eq_false c4
                  have HC : Hid (modF ⟨il, sz, al⟩ x = if 1048576 < (x + sz + (al - 1)) / al * al then none else some ((x + sz + (al - 1)) / al * al)) := Lib.hid (by rw [HMF.out, if_neg (by have := HP.out; rintro (h | h | h | h) <;> omega)])
                  have HS4 : Hid (sz ≤ 1048576) := Lib.hid (by omega)
                  clear c3 c4 HMF
                  go_wp2_with fail
                  go_quiet (fail)
                  have hBD : Below wr.heap.size wr (wr.drewN nq) := below_drewN (Below.refl _ _) _
                  have q1b : (wr.drewN nq).cell? ⟨b, o + k * 3 + 1, none⟩ = some (.int .u64 (sz : Int)) := by rw [hBD.cell (p := ⟨b, o + k * 3 + 1, none⟩) HLT.out]; exact q1
                  have BN := Lib.hid (HB.out.trans (hBD.mono HB.out.size))
                  have ON := Lib.hid (HO.out.below hBD)
                  have WN : Hid (w.heap.size ≤ (wr.drewN nq).heap.size) := Lib.hid (Nat.le_trans HB.out.size hBD.size)
                  generalize wr.drewN nq = wd at q1b BN ON WN ⊢
                  clear hBD q0 q1 q2 c3i c4i c4j e1
                  obtain ⟨z, hz⟩ : ∃ z, x + sz = z := ⟨_, rfl⟩
                  rw [hz] at HC
                  have e5 : IntKind.u64.wrap ((x : Int) + (sz : Int)) = (z : Int) := by have := HK9.out; have := HS4.out; rw [IntKind.wrap_u64]; omega
                  have HZB : Hid (z ≤ 2097152) := Lib.hid (by have := HK9.out; have := HS4.out; omega)
                  obtain ⟨X, hX⟩ : ∃ X, (z + (al - 1)) / al * al = X := ⟨_, rfl⟩
                  have hcg := ceil_ge (z := z) HA1.out.1
                  rw [hX] at hcg
                  have HCL : Hid (∀ v, z ≤ v → v % al = 0 → X ≤ v) := Lib.hid (fun v h1 h2 => by rw [← hX]; exact ceil_le HA1.out.1 h1 h2)
                  have HXM : Hid (X % al = 0 ∧ z ≤ X ∧ X ≤ z + (al - 1)) := Lib.hid ⟨by rw [← hX]; exact Nat.mul_mod_left _ _, hcg.1, hcg.2⟩
                  rw [hX] at HC
                  clear hX hcg hz
                  have a0 : ¬ (al : Int) = 0 := by have := HA1.out; omega
                  go_upto_region 18 with fail
                  clear e5 q1b
                  go_loopg [7] (X - z) (fun g s7 wq => ∃ v : Nat, s7 = .int .u64 (v : Int) ∧ Hid (v + g = X ∧ z ≤ v) ∧ wd = wq)
                  case atStart => exact ⟨z, rfl, Lib.hid (by have := HXM.out; omega), rfl⟩
                  case round =>
                    obtain ⟨v, rfl, HV, rfl⟩ := hrel
                    obtain ⟨hv1, hv2⟩ := HV.out
                    cases gk with
                    | zero =>
                      obtain rfl : v = X := by omega
                      have m1 : (v : Int).tmod (al : Int) = 0 := by have := HXM.out.1; rw [Int.tmod_eq_emod_of_nonneg (by omega)]; omega
                      clear hv1 hv2 HV
                      by_cases c5 : 1048576 < v
                      · have c5i : (1048576 : Int) < (v : Int) := by omega
                        have HRN : Hid (R = none) := Lib.hid (by rw [← HK4.out, HC.out, if_pos c5]; rfl)
                        go_wp2_with fail
                        refine bodyPost_ret (results_four rfl _ _ _) rfl ?_
                        rw [HRN.out]
                        exact ⟨⟨.slice none 0 0, rfl, OwnI.nil _ _ _ _⟩, BN.out⟩
                      · have c5i : ¬ (1048576 : Int) < (v : Int) := by omega
                        have HX := Lib.hid c5
                        have hk4 := HK4.out
                        rw [HC.out, if_neg c5] at hk4
                        simp only at hk4
                        rw [HMX.out] at hk4
                        have HL4 := Lib.hid hk4
                        obtain ⟨tn, htn⟩ : ∃ tn, told.length = tn := ⟨_, rfl⟩
                        rw [htn] at ON ⊢
                        have HTN := Lib.hid htn
                        have HTI : Hid ((toI told).length = tn) := Lib.hid (by rw [toI_length]; exact htn)
                        have HTL : Hid ((tn + 1) ≤ maxLen ∧ (tn + 1) * 8 ≤ 140737488355328) := Lib.hid (by have := HK9.out; have := HNN.out; unfold maxLen; omega)
                        clear htn hk4 c5
                        by_cases c6 : mo < al
                        · have c6i : (mo : Int) < (al : Int) := by omega
                          have HC6 : Hid (mo < al) := Lib.hid c6
                          clear c6
                          go_wp2_with (at_builtin; refine wpList_push rfl (.tmp 80) (.tmp 82) slice64t rfl w.heap.size w (.slice ad tn c) (toI told) tn (v : Int) rfl (by rfl) HTI.out ON.out HTL.out.1 HTL.out.2 (BN.out) WN.out ?_; intro ad6 c6' w6 hown6 hbe6; have O6 := Lib.hid hown6; have HB6 := Lib.hid hbe6; clear hown6 hbe6)
                          go_roundg f
                          case measure => omega
                          case rel =>
                            refine ⟨k + 1, v, al, told ++ [v], by go_num, rfl, rfl, ⟨ad6, c6', by rw [List.length_append, HTN.out]; rfl, Lib.hid ?_⟩, Lib.hid ⟨by have := HK9.out; omega, by have := HX.out; omega, by rw [List.length_append]; have := HK9.out; simp; omega, by have := HK9.out; have := HP.out; have := HC6.out; have := HA1.out; omega, ?_⟩, HB6⟩
                            · rw [List.length_append, HTN.out]
                              have := O6.out
                              rw [show toI told ++ [(v : Int)] = toI (told ++ [v]) from by rw [toI_append]; rfl] at this
                              exact this
                            · have h9 := HL4.out
                              rw [show max mo al = al from by have := HC6.out; omega] at h9
                              rw [← h9]
                              cases layF (l.drop (k + 1)) v al with
                              | none => rfl
                              | some t => simp
                        · have c6i : ¬ (mo : Int) < (al : Int) := by omega
                          have HC6 : Hid (¬ mo < al) := Lib.hid c6
                          clear c6
                          go_wp2_with (at_builtin; refine wpList_push rfl (.tmp 80) (.tmp 82) slice64t rfl w.heap.size w (.slice ad tn c) (toI told) tn (v : Int) rfl (by rfl) HTI.out ON.out HTL.out.1 HTL.out.2 (BN.out) WN.out ?_; intro ad6 c6' w6 hown6 hbe6; have O6 := Lib.hid hown6; have HB6 := Lib.hid hbe6; clear hown6 hbe6)
                          go_roundg f
                          case measure => omega
                          case rel =>
                            refine ⟨k + 1, v, mo, told ++ [v], by go_num, rfl, rfl, ⟨ad6, c6', by rw [List.length_append, HTN.out]; rfl, Lib.hid ?_⟩, Lib.hid ⟨by have := HK9.out; omega, by have := HX.out; omega, by rw [List.length_append]; have := HK9.out; simp; omega, by have := HK9.out; have := HP.out; have := HC6.out; have := HA1.out; omega, ?_⟩, HB6⟩
                            · rw [List.length_append, HTN.out]
                              have := O6.out
                              rw [show toI told ++ [(v : Int)] = toI (told ++ [v]) from by rw [toI_append]; rfl] at this
                              exact this
                            · have h9 := HL4.out
                              rw [show max mo al = mo from by have := HC6.out; omega] at h9
                              rw [← h9]
                              cases layF (l.drop (k + 1)) v mo with
                              | none => rfl
                              | some t => simp
                    | succ g =>
                      obtain ⟨r, hr⟩ : ∃ r, v % al = r := ⟨_, rfl⟩
                      have hr0 : r ≠ 0 := fun e => by
                        have := HCL.out v hv2 (by omega)
                        omega
                      have m1 : (v : Int).tmod (al : Int) = (r : Int) := by rw [← hr, Int.tmod_eq_emod_of_nonneg (by omega)]; rfl
                      have m2 : ((r : Int) != 0) = true := by rw [bne_iff_ne]; omega
                      have e7 : IntKind.u64.wrap ((v : Int) + 1) = ((v + 1 : Nat) : Int) := by have := HXM.out; have := HZB.out; have := HP.out; rw [IntKind.wrap_u64]; omega
                      have HV2 : Hid (v + 1 + g = X ∧ z ≤ v + 1) := Lib.hid (by omega)
                      clear hv1 hv2 hr hr0 HV
                      generalize v + 1 = v2 at *
                      go_wp2_with fail
                      go_roundg g
                      case measure => omega
                      case rel => exact ⟨v2, rfl, HV2, rfl⟩
          | succ g =>
            have ht3 : t ≤ 4096 := by
              have : 2 ^ i ≤ 2 ^ 12 := Nat.pow_le_pow_right (by omega) (by omega)
              omega
            have t1 : (t : Int) ≤ 4096 := by omega
            have e2 : IntKind.u64.wrap (2 * (t : Int)) = ((2 * t : Nat) : Int) := by rw [IntKind.wrap_u64]; omega
            have HT2 : Hid (i + 1 + g = 13 ∧ 2 * t = 2 ^ (i + 1)) := Lib.hid ⟨by omega, by rw [Nat.pow_succ]; omega⟩
            have HPS : Hid (powB al (i + 1) = (powB al i || (t == al))) := Lib.hid (by rw [powB, ht2])
            clear ht1 ht2 ht3 HT
            generalize 2 * t = t2 at *
            obtain ⟨pb, hpb⟩ : ∃ pb, powB al i = pb := ⟨_, rfl⟩
            rw [hpb] at HPS ⊢
            clear hpb
            cases pb with
            | true =>
              go_wp2_with fail
              go_roundg g
              case measure => omega
              case rel => exact ⟨i + 1, t2, rfl, by rw [HPS.out]; rfl, HT2, rfl⟩
            | false =>
              by_cases hta : t = al
              · have h1 : ((t : Int) == (al : Int)) = true := by rw [hta]; simp
                have h2 : (t == al) = true := by rw [hta]; simp
                have HPT : Hid (powB al (i + 1) = true) := Lib.hid (by rw [HPS.out, h2]; rfl)
                clear hta
                go_wp2_with fail
                go_roundg g
                case measure => omega
                case rel => exact ⟨i + 1, t2, rfl, by rw [HPT.out], HT2, rfl⟩
              · have h1 : ((t : Int) == (al : Int)) = false := by
                  rw [beq_eq_false_iff_ne]; omega
                have h2 : (t == al) = false := by rw [beq_eq_false_iff_ne]; exact hta
                have HPT : Hid (powB al (i + 1) = false) := Lib.hid (by rw [HPS.out, h2]; rfl)
                clear hta
                go_wp2_with fail
                go_roundg g
                case measure => omega
                case rel => exact ⟨i + 1, t2, rfl, by rw [HPT.out], HT2, rfl⟩
end Go.Proofs.Ytbppajfpjhmcgaa
