/- Layer 18: Layout, of any modules. -/
import Derived.Test.YtbppajfpjhmcgaaTlsLay
import Derived.Deep.DeepCutAuto
namespace Go.Proofs.Ytbppajfpjhmcgaa
open Go.RowKit
set_option linter.unusedVariables false
set_option linter.unusedSimpArgs false

set_option maxRecDepth 100000 in
set_option maxHeartbeats 16000000 in
theorem layout_any (a : Option Addr) (cap n : Nat) (l : List Md) (w : World) (h : MRow w a l) (hl : l.length = n) (hn : n ≤ 17592186044416) :
    Calls Try.prog 6 #[.slice a n cap] w (LayAns (layF l 0 1) w) := by
  obtain ⟨R, hR⟩ : ∃ R, layF l 0 1 = R := ⟨_, rfl⟩
  have HR0 : Hid ((layF (l.drop 0) 0 1).map (fun t => (([] : List Nat) ++ t.1, t.2)) = R) := Lib.hid (by rw [List.drop_zero, hR]; cases R <;> rfl)
  have H := Lib.hid h
  have HL := Lib.hid hl
  have HNN := Lib.hid hn
  have O0 : Hid (OwnI w w.heap.size 25 .u64 (.slice none 0 0) (toI ([] : List Nat))) := Lib.hid (OwnI.nil _ _ _ _)
  rw [hR]
  clear h hl hn hR
  go_enter Try.func6, Try.ntmps6
  go_wp2_with fail
  go_loopg [6, 7, 8, 14] n (fun f s6 s7 s8 s14 wr => ∃ (k x mo : Nat) (told : List Nat), s14 = .int .i64 (k : Int) ∧ s7 = .int .u64 (x : Int) ∧ s8 = .int .u64 (mo : Int) ∧ (∃ ad c, s6 = .slice ad told.length c ∧ Hid (OwnI wr w.heap.size 25 .u64 (.slice ad told.length c) (toI told))) ∧ Hid (k + f = n ∧ x ≤ 1048576 ∧ told.length = k ∧ (1 ≤ mo ∧ mo ≤ 4096) ∧ (layF (l.drop k) x mo).map (fun t => (told ++ t.1, t.2)) = R) ∧ Hid (Below w.heap.size w wr))
  case atStart => exact ⟨0, 0, 1, [], rfl, rfl, rfl, ⟨none, 0, rfl, O0⟩, Lib.hid ⟨by omega, by omega, rfl, ⟨by omega, by omega⟩, HR0.out⟩, Lib.hid (Below.refl _ _)⟩
  case round =>
    clear HR0 O0
    obtain ⟨k, x, mo, told, rfl, rfl, rfl, ⟨ad, c, rfl, HO⟩, HK, HB⟩ := hrel
    obtain ⟨hk1, hk2, hk3, hk5, hk4⟩ := HK.out
    cases gk with
    | zero =>
      have hke : k = n := by omega
      have HF : Hid (R = some (told, x, mo)) := Lib.hid (by rw [← hk4, List.drop_of_length_le (by rw [HL.out]; omega)]; simp [layF])
      clear hk1 hk2 hk3 hk4 hk5 HK
      subst hke
      generalize told.length = tn at *
      go_wp2_with fail
      refine bodyPost_ret (results_four rfl _ _ _) rfl ?_
      rw [HF.out]
      exact ⟨⟨_, rfl, HO.out⟩, HB.out⟩
    | succ f =>
      have hkn : (k : Int) < (n : Int) := by omega
      have hkl : k < l.length := by rw [HL.out]; omega
      obtain ⟨b, o, ia, ic, rfl, hlt, q0, q1, q2, hb1, hb2, hb3⟩ := (H.out.below HB.out) k hkl
      have hd : l.drop k = l[k] :: l.drop (k + 1) := List.drop_eq_getElem_cons hkl
      rw [hd, layF] at hk4
      generalize l[k] = md at *
      obtain ⟨il, sz, al⟩ := md
      simp only at q0 q1 q2 hb1 hb2 hb3
      have HQ : Hid (modF ⟨il, sz, al⟩ x = modF ⟨il, sz, al⟩ x) := Lib.hid rfl
      obtain ⟨A, hA⟩ : ∃ A, max 1 al = A := ⟨_, rfl⟩
      have hA1 : 1 ≤ A := by omega
      have hA64 : A < 18446744073709551616 := by omega
      have HONES := fun wx => ones A wx hA64
      have hcase : ((1 : Int) < (al : Int) ∧ ∃ y : Int, y = (al : Int) ∧ y = (A : Int)) ∨ (¬ (1 : Int) < (al : Int) ∧ ∃ y : Int, y = 1 ∧ y = (A : Int)) := by
        by_cases h1 : 1 < al
        · exact .inl ⟨by omega, _, rfl, by omega⟩
        · exact .inr ⟨by omega, _, rfl, by omega⟩
      have hmf : modF ⟨il, sz, al⟩ x = if Pop.pop A ≠ 1 ∨ 4096 < A ∨ sz < il ∨ 1048576 < sz then none else if 1048576 < (x + sz + (A - 1)) / A * A then none else some ((x + sz + (A - 1)) / A * A) := by
        unfold modF
        show (if Pop.pop (max 1 al) ≠ 1 ∨ 4096 < max 1 al ∨ sz < il ∨ 1048576 < sz then none else _) = _
        rw [hA]
      simp only at hk4
      rw [hA] at hk4
      clear hA HQ hd hkl hb3
      have HK9 : Hid (k + f + 1 = n ∧ told.length = k ∧ 1 ≤ mo ∧ mo ≤ 4096 ∧ x ≤ 1048576 ∧ il ≤ 140737488355328) := Lib.hid (by omega)
      have HB1 : Hid (Below w.heap.size w (wr.alloc (.cells #[.slice ia il ic, .int .u64 (sz : Int), .int .u64 (al : Int)] 37))) := Lib.hid (HB.out.alloc HB.out.size _)
      have HO1 : Hid (OwnI (wr.alloc (.cells #[.slice ia il ic, .int .u64 (sz : Int), .int .u64 (al : Int)] 37)) w.heap.size 25 .u64 (.slice ad told.length c) (toI told)) := Lib.hid (HO.out.below ((Below.refl _ _).alloc (Nat.le_refl _) _))
      obtain ⟨w1, hw1⟩ : ∃ w1, wr.alloc (.cells #[.slice ia il ic, .int .u64 (sz : Int), .int .u64 (al : Int)] 37) = w1 := ⟨_, rfl⟩
      have g0 : w1.cell? ⟨wr.heap.size, 0, none⟩ = some (.slice ia il ic) := by rw [← hw1, World.cell?_alloc_new]; rfl
      have g1 : w1.cell? ⟨wr.heap.size, 1, none⟩ = some (.int .u64 (sz : Int)) := by rw [← hw1, World.cell?_alloc_new]; rfl
      have g2 : w1.cell? ⟨wr.heap.size, 2, none⟩ = some (.int .u64 (al : Int)) := by rw [← hw1, World.cell?_alloc_new]; rfl
      rw [hw1] at HB1 HO1
      have HW1 := Lib.hid hw1
      have HO2 : Hid (w.heap.size ≤ w1.heap.size) := Lib.hid HB1.out.size
      clear hw1 HO HB hk1 hk2 hk3 hk5 HK
      obtain ⟨vb, hvb⟩ : ∃ vb, wr.heap.size = vb := ⟨_, rfl⟩
      rw [hvb] at g0 g1 g2
      have HVB := Lib.hid hvb
      clear hvb
      rcases hcase with ⟨hc1, y, rfl, hyA⟩ | ⟨hc1, y, rfl, hyA⟩
      ·
        have HYA := Lib.hid hyA
        clear hyA
        go_upto_region 6 with fail
        rw [HW1.out, HVB.out]
        clear HW1 q0 q1 q2 HVB hlt
        have HON : Hid (∀ wx, Calls Try.prog 18 #[.int .u64 ((al : Int))] wx fun e w' => e = .returned (.int .i64 ((Pop.pop A : Nat) : Int)) ∧ wx = w') := Lib.hid (fun wx => by
          have := HONES wx
          rw [← HYA.out] at this
          exact this)
        have HPOW : Hid (Pop.pop A = 1 → ∃ i, i < 64 ∧ A = 2 ^ i) := Lib.hid (fun hp => pow_of hA64 hp)
        clear HONES
        have HA1 := Lib.hid (And.intro hA1 hA64)
        have e1 : IntKind.u64.wrap (il : Int) = (il : Int) := by rw [IntKind.wrap_u64]; omega
        have HSB := Lib.hid hb2
        clear hA1 hA64 hb1 hb2
        obtain ⟨P, hP⟩ : ∃ P, Pop.pop A = P := ⟨_, rfl⟩
        rw [hP] at HON hmf HPOW
        clear hP
        by_cases c1 : P = 1
        · subst c1
          by_cases c2 : 4096 < A
          · have c2i : (4096 : Int) < (al : Int) := by have := HYA.out; omega
            have HRN : Hid (R = none) := Lib.hid (by rw [← hk4, hmf, if_pos (.inr (.inl c2))]; rfl)
            clear hk4 hmf
            skip
            go_wp2_with (go_at_call 18; refine (HON.out _).mono ?_; rintro e w' ⟨rfl, rfl⟩)
            refine bodyPost_ret (results_four rfl _ _ _) rfl ?_
            rw [HRN.out]
            exact ⟨⟨.slice none 0 0, rfl, OwnI.nil _ _ _ _⟩, HB1.out⟩
          · have c2i : ¬ (4096 : Int) < (al : Int) := by have := HYA.out; omega
            by_cases c3 : sz < il
            · have c3i : (sz : Int) < (il : Int) := by omega
              have HRN : Hid (R = none) := Lib.hid (by rw [← hk4, hmf, if_pos (.inr (.inr (.inl c3)))]; rfl)
              clear hk4 hmf
              skip
              go_wp2_with (go_at_call 18; refine (HON.out _).mono ?_; rintro e w' ⟨rfl, rfl⟩)
              refine bodyPost_ret (results_four rfl _ _ _) rfl ?_
              rw [HRN.out]
              exact ⟨⟨.slice none 0 0, rfl, OwnI.nil _ _ _ _⟩, HB1.out⟩
            · have c3i : ¬ (sz : Int) < (il : Int) := by omega
              by_cases c4 : 1048576 < sz
              · have c4i : (1048576 : Int) < (sz : Int) := by omega
                have HRN : Hid (R = none) := Lib.hid (by rw [← hk4, hmf, if_pos (.inr (.inr (.inr c4)))]; rfl)
                clear hk4 hmf
                skip
                go_wp2_with (go_at_call 18; refine (HON.out _).mono ?_; rintro e w' ⟨rfl, rfl⟩)
                refine bodyPost_ret (results_four rfl _ _ _) rfl ?_
                rw [HRN.out]
                exact ⟨⟨.slice none 0 0, rfl, OwnI.nil _ _ _ _⟩, HB1.out⟩
              · have c4i : ¬ (1048576 : Int) < (sz : Int) := by omega
                obtain ⟨i, hi, hpw⟩ := HPOW.out rfl
                have HK10 := HK9.out
                have hup := tup_any (x + sz) A i w1 HA1.out.1 hi hpw (by omega)
                have hX : (x + sz + (A - 1)) / A * A ≤ x + sz + (A - 1) := Nat.div_mul_le_self _ _
                rw [if_neg (by rintro (h9 | h9 | h9 | h9) <;> omega)] at hmf
                rw [← HYA.out] at hup
                obtain ⟨X, hXe⟩ : ∃ X, (x + sz + (A - 1)) / A * A = X := ⟨_, rfl⟩
                rw [hXe] at hup hX hmf
                have HUP := Lib.hid hup
                have HC2 := Lib.hid c2
                have e2 : IntKind.u64.wrap ((x : Int) + (sz : Int)) = ((x + sz : Nat) : Int) := by rw [IntKind.wrap_u64]; omega
                clear hup hXe hi hpw c2 c3 c4 HPOW
                by_cases c5 : 1048576 < X
                · have c5i : (1048576 : Int) < (X : Int) := by omega
                  clear hX HK10
                  have HRN : Hid (R = none) := Lib.hid (by rw [← hk4, hmf, if_pos c5]; rfl)
                  clear hk4 hmf
                  generalize x + sz = xs at *
                  go_wp2_with (go_at_call 18; refine (HON.out _).mono ?_; rintro e w' ⟨rfl, rfl⟩)
                  refine HUP.out.mono ?_
                  rintro e w' ⟨rfl, rfl⟩
                  go_wp2_with fail
                  refine bodyPost_ret (results_four rfl _ _ _) rfl ?_
                  rw [HRN.out]
                  exact ⟨⟨.slice none 0 0, rfl, OwnI.nil _ _ _ _⟩, HB1.out⟩
                · by_cases c6 : mo < al
                  · have c6i : (mo : Int) < (al : Int) := by omega
                    have HC6 : Hid (mo < al ∧ ¬ 4096 < A) := Lib.hid ⟨c6, HC2.out⟩
                    clear c6
                    have c5i : ¬ (1048576 : Int) < (X : Int) := by omega
                    rw [hmf, if_neg c5] at hk4
                    simp only at hk4
                    have HL4 := Lib.hid hk4
                    have HX := Lib.hid c5
                    have hk64 : (k : Int) ≤ 17592186044416 := by have := HNN.out; omega
                    have HTL : Hid ((told.length + 1) ≤ maxLen ∧ (told.length + 1) * 8 ≤ 140737488355328) := Lib.hid (by unfold maxLen; have := HNN.out; omega)
                    clear hX HK10 hk4 hmf c5
                    generalize x + sz = xs at *
                    go_wp2_with (go_at_call 18; refine (HON.out _).mono ?_; rintro e w' ⟨rfl, rfl⟩)
                    refine HUP.out.mono ?_
                    rintro e w' ⟨rfl, rfl⟩
                    clear HUP HON
                    obtain ⟨tn, htn⟩ : ∃ tn, told.length = tn := ⟨_, rfl⟩
                    rw [htn] at HO1 HTL ⊢
                    have HTN := Lib.hid htn
                    have HTI : Hid ((toI told).length = tn) := Lib.hid (by rw [toI_length]; exact htn)
                    clear htn
                    go_wp2_with (at_builtin; go_loud (refine wpList_push rfl (.tmp 52) (.tmp 54) slice64t rfl w.heap.size w (.slice ad tn c) (toI told) tn (X : Int) rfl (by rfl) HTI.out HO1.out HTL.out.1 HTL.out.2 HB1.out HO2.out ?_); intro ad6 c6' w6 hown6 hbe6; have O6 := Lib.hid hown6; have HB6 := Lib.hid hbe6; clear hown6 hbe6)
                    go_roundg f
                    case measure => omega
                    case rel =>
                      refine ⟨k + 1, X, al, told ++ [X], by go_num, rfl, rfl, ⟨ad6, c6', by rw [List.length_append, HTN.out]; rfl, Lib.hid ?_⟩, Lib.hid ⟨by have := HK9.out; omega, by have := HX.out; omega, by rw [List.length_append]; have := HK9.out; simp; omega, by have := HK9.out; have := HC6.out; have := HA1.out; have := HYA.out; omega, ?_⟩, HB6⟩
                      · rw [List.length_append, HTN.out]
                        have := O6.out
                        rw [show toI told ++ [(X : Int)] = toI (told ++ [X]) from by rw [toI_append]; rfl] at this
                        exact this
                      · have h9 := HL4.out
                        rw [show max mo A = al from by have := HYA.out; have := HK9.out; have := HC6.out; omega] at h9
                        rw [← h9]
                        cases layF (l.drop (k + 1)) X al with
                        | none => rfl
                        | some t => simp
                  · have c6i : ¬ (mo : Int) < (al : Int) := by omega
                    have HC6 : Hid (¬ mo < al ∧ ¬ 4096 < A) := Lib.hid ⟨c6, HC2.out⟩
                    clear c6
                    have c5i : ¬ (1048576 : Int) < (X : Int) := by omega
                    rw [hmf, if_neg c5] at hk4
                    simp only at hk4
                    have HL4 := Lib.hid hk4
                    have HX := Lib.hid c5
                    have hk64 : (k : Int) ≤ 17592186044416 := by have := HNN.out; omega
                    have HTL : Hid ((told.length + 1) ≤ maxLen ∧ (told.length + 1) * 8 ≤ 140737488355328) := Lib.hid (by unfold maxLen; have := HNN.out; omega)
                    clear hX HK10 hk4 hmf c5
                    generalize x + sz = xs at *
                    go_wp2_with (go_at_call 18; refine (HON.out _).mono ?_; rintro e w' ⟨rfl, rfl⟩)
                    refine HUP.out.mono ?_
                    rintro e w' ⟨rfl, rfl⟩
                    clear HUP HON
                    obtain ⟨tn, htn⟩ : ∃ tn, told.length = tn := ⟨_, rfl⟩
                    rw [htn] at HO1 HTL ⊢
                    have HTN := Lib.hid htn
                    have HTI : Hid ((toI told).length = tn) := Lib.hid (by rw [toI_length]; exact htn)
                    clear htn
                    go_wp2_with (at_builtin; go_loud (refine wpList_push rfl (.tmp 52) (.tmp 54) slice64t rfl w.heap.size w (.slice ad tn c) (toI told) tn (X : Int) rfl (by rfl) HTI.out HO1.out HTL.out.1 HTL.out.2 HB1.out HO2.out ?_); intro ad6 c6' w6 hown6 hbe6; have O6 := Lib.hid hown6; have HB6 := Lib.hid hbe6; clear hown6 hbe6)
                    go_roundg f
                    case measure => omega
                    case rel =>
                      refine ⟨k + 1, X, mo, told ++ [X], by go_num, rfl, rfl, ⟨ad6, c6', by rw [List.length_append, HTN.out]; rfl, Lib.hid ?_⟩, Lib.hid ⟨by have := HK9.out; omega, by have := HX.out; omega, by rw [List.length_append]; have := HK9.out; simp; omega, by have := HK9.out; have := HC6.out; have := HA1.out; have := HYA.out; omega, ?_⟩, HB6⟩
                      · rw [List.length_append, HTN.out]
                        have := O6.out
                        rw [show toI told ++ [(X : Int)] = toI (told ++ [X]) from by rw [toI_append]; rfl] at this
                        exact this
                      · have h9 := HL4.out
                        rw [show max mo A = mo from by have := HYA.out; have := HK9.out; have := HC6.out; omega] at h9
                        rw [← h9]
                        cases layF (l.drop (k + 1)) X mo with
                        | none => rfl
                        | some t => simp
        · have c1i : ¬ (P : Int) = 1 := by omega
          have HRN : Hid (R = none) := Lib.hid (by rw [← hk4, hmf, if_pos (.inl c1)]; rfl)
          clear hk4 hmf
          skip
          go_wp2_with (go_at_call 18; refine (HON.out _).mono ?_; rintro e w' ⟨rfl, rfl⟩)
          refine bodyPost_ret (results_four rfl _ _ _) rfl ?_
          rw [HRN.out]
          exact ⟨⟨.slice none 0 0, rfl, OwnI.nil _ _ _ _⟩, HB1.out⟩
      ·
        have HYA := Lib.hid hyA
        clear hyA
        go_upto_region 6 with fail
        rw [HW1.out, HVB.out]
        clear HW1 q0 q1 q2 HVB hlt
        have HON : Hid (∀ wx, Calls Try.prog 18 #[.int .u64 (1)] wx fun e w' => e = .returned (.int .i64 ((Pop.pop A : Nat) : Int)) ∧ wx = w') := Lib.hid (fun wx => by
          have := HONES wx
          rw [← HYA.out] at this
          exact this)
        have HPOW : Hid (Pop.pop A = 1 → ∃ i, i < 64 ∧ A = 2 ^ i) := Lib.hid (fun hp => pow_of hA64 hp)
        clear HONES
        have HA1 := Lib.hid (And.intro hA1 hA64)
        have e1 : IntKind.u64.wrap (il : Int) = (il : Int) := by rw [IntKind.wrap_u64]; omega
        have HSB := Lib.hid hb2
        clear hA1 hA64 hb1 hb2
        obtain ⟨P, hP⟩ : ∃ P, Pop.pop A = P := ⟨_, rfl⟩
        rw [hP] at HON hmf HPOW
        clear hP
        by_cases c1 : P = 1
        · subst c1
          by_cases c2 : 4096 < A
          · have := HYA.out; omega
          · skip
            by_cases c3 : sz < il
            · have c3i : (sz : Int) < (il : Int) := by omega
              have HRN : Hid (R = none) := Lib.hid (by rw [← hk4, hmf, if_pos (.inr (.inr (.inl c3)))]; rfl)
              clear hk4 hmf
              skip
              go_wp2_with (go_at_call 18; refine (HON.out _).mono ?_; rintro e w' ⟨rfl, rfl⟩)
              refine bodyPost_ret (results_four rfl _ _ _) rfl ?_
              rw [HRN.out]
              exact ⟨⟨.slice none 0 0, rfl, OwnI.nil _ _ _ _⟩, HB1.out⟩
            · have c3i : ¬ (sz : Int) < (il : Int) := by omega
              by_cases c4 : 1048576 < sz
              · have c4i : (1048576 : Int) < (sz : Int) := by omega
                have HRN : Hid (R = none) := Lib.hid (by rw [← hk4, hmf, if_pos (.inr (.inr (.inr c4)))]; rfl)
                clear hk4 hmf
                skip
                go_wp2_with (go_at_call 18; refine (HON.out _).mono ?_; rintro e w' ⟨rfl, rfl⟩)
                refine bodyPost_ret (results_four rfl _ _ _) rfl ?_
                rw [HRN.out]
                exact ⟨⟨.slice none 0 0, rfl, OwnI.nil _ _ _ _⟩, HB1.out⟩
              · have c4i : ¬ (1048576 : Int) < (sz : Int) := by omega
                obtain ⟨i, hi, hpw⟩ := HPOW.out rfl
                have HK10 := HK9.out
                have hup := tup_any (x + sz) A i w1 HA1.out.1 hi hpw (by omega)
                have hX : (x + sz + (A - 1)) / A * A ≤ x + sz + (A - 1) := Nat.div_mul_le_self _ _
                rw [if_neg (by rintro (h9 | h9 | h9 | h9) <;> omega)] at hmf
                rw [← HYA.out] at hup
                obtain ⟨X, hXe⟩ : ∃ X, (x + sz + (A - 1)) / A * A = X := ⟨_, rfl⟩
                rw [hXe] at hup hX hmf
                have HUP := Lib.hid hup
                have HC2 := Lib.hid c2
                have e2 : IntKind.u64.wrap ((x : Int) + (sz : Int)) = ((x + sz : Nat) : Int) := by rw [IntKind.wrap_u64]; omega
                clear hup hXe hi hpw c2 c3 c4 HPOW
                by_cases c5 : 1048576 < X
                · have c5i : (1048576 : Int) < (X : Int) := by omega
                  clear hX HK10
                  have HRN : Hid (R = none) := Lib.hid (by rw [← hk4, hmf, if_pos c5]; rfl)
                  clear hk4 hmf
                  generalize x + sz = xs at *
                  go_wp2_with (go_at_call 18; refine (HON.out _).mono ?_; rintro e w' ⟨rfl, rfl⟩)
                  refine HUP.out.mono ?_
                  rintro e w' ⟨rfl, rfl⟩
                  go_wp2_with fail
                  refine bodyPost_ret (results_four rfl _ _ _) rfl ?_
                  rw [HRN.out]
                  exact ⟨⟨.slice none 0 0, rfl, OwnI.nil _ _ _ _⟩, HB1.out⟩
                · have c6i : ¬ (mo : Int) < 1 := by omega
                  have HC6 : Hid (1 ≤ mo) := Lib.hid (by omega)
                  have c5i : ¬ (1048576 : Int) < (X : Int) := by omega
                  rw [hmf, if_neg c5] at hk4
                  simp only at hk4
                  have HL4 := Lib.hid hk4
                  have HX := Lib.hid c5
                  have hk64 : (k : Int) ≤ 17592186044416 := by have := HNN.out; omega
                  have HTL : Hid ((told.length + 1) ≤ maxLen ∧ (told.length + 1) * 8 ≤ 140737488355328) := Lib.hid (by unfold maxLen; have := HNN.out; omega)
                  clear hX HK10 hk4 hmf c5
                  generalize x + sz = xs at *
                  go_wp2_with (go_at_call 18; refine (HON.out _).mono ?_; rintro e w' ⟨rfl, rfl⟩)
                  refine HUP.out.mono ?_
                  rintro e w' ⟨rfl, rfl⟩
                  clear HUP HON
                  obtain ⟨tn, htn⟩ : ∃ tn, told.length = tn := ⟨_, rfl⟩
                  rw [htn] at HO1 HTL ⊢
                  have HTN := Lib.hid htn
                  have HTI : Hid ((toI told).length = tn) := Lib.hid (by rw [toI_length]; exact htn)
                  clear htn
                  go_wp2_with (at_builtin; go_loud (refine wpList_push rfl (.tmp 52) (.tmp 54) slice64t rfl w.heap.size w (.slice ad tn c) (toI told) tn (X : Int) rfl (by rfl) HTI.out HO1.out HTL.out.1 HTL.out.2 HB1.out HO2.out ?_); intro ad6 c6' w6 hown6 hbe6; have O6 := Lib.hid hown6; have HB6 := Lib.hid hbe6; clear hown6 hbe6)
                  go_roundg f
                  case measure => omega
                  case rel =>
                    refine ⟨k + 1, X, mo, told ++ [X], by go_num, rfl, rfl, ⟨ad6, c6', by rw [List.length_append, HTN.out]; rfl, Lib.hid ?_⟩, Lib.hid ⟨by have := HK9.out; omega, by have := HX.out; omega, by rw [List.length_append]; have := HK9.out; simp; omega, by have := HK9.out; have := HC6.out; have := HA1.out; have := HYA.out; omega, ?_⟩, HB6⟩
                    · rw [List.length_append, HTN.out]
                      have := O6.out
                      rw [show toI told ++ [(X : Int)] = toI (told ++ [X]) from by rw [toI_append]; rfl] at this
                      exact this
                    · have h9 := HL4.out
                      rw [show max mo A = mo from by have := HYA.out; have := HK9.out; have := HC6.out; omega] at h9
                      rw [← h9]
                      cases layF (l.drop (k + 1)) X mo with
                      | none => rfl
                      | some t => simp
        · have c1i : ¬ (P : Int) = 1 := by omega
          have HRN : Hid (R = none) := Lib.hid (by rw [← hk4, hmf, if_pos (.inl c1)]; rfl)
          clear hk4 hmf
          skip
          go_wp2_with (go_at_call 18; refine (HON.out _).mono ?_; rintro e w' ⟨rfl, rfl⟩)
          refine bodyPost_ret (results_four rfl _ _ _) rfl ?_
          rw [HRN.out]
          exact ⟨⟨.slice none 0 0, rfl, OwnI.nil _ _ _ _⟩, HB1.out⟩
end Go.Proofs.Ytbppajfpjhmcgaa
