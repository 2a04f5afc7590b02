/- Layer 9, the statements' own walks: packed, unpacked, and back. -/
import Derived.Test.YtgdaeddcmplpkaaRelsUp
namespace Go.Proofs.Ytgdaeddcmplpkaa
open Go.RowKit
set_option linter.unusedVariables false
set_option linter.unusedSimpArgs false

theorem packF_err (ys : List Nat) : (packF ys = (3, []) ∨ packF ys = (2, [])) ∨ (packF ys = (0, packW none ys) ∧ okTo ys ys.length ∧ ¬ 16384 < ys.length) := by
  by_cases h : okTo ys ys.length
  · by_cases h2 : 16384 < ys.length
    · exact .inl (.inr (packF_long h h2))
    · exact .inr ⟨packF_yes h h2, h, h2⟩
  · left; left
    rw [packF, if_neg h]
theorem unF_err (ys : List Nat) : (unF ys).1 = 0 ∨ (unF ys).1 = 2 ∨ (unF ys).1 = 3 := by
  unfold unF
  split
  · right; right; rfl
  · split
    · right; left; rfl
    · left; rfl
theorem unF_len (ys : List Nat) : (unF ys).2.length ≤ 16384 := by
  unfold unF
  split
  · simp
  · split
    · simp
    · simp only
      omega
theorem packF_len (ys : List Nat) : (packF ys).2.length ≤ 16384 ∧ ((packF ys).1 = 0 ∨ (packF ys).1 = 2 ∨ (packF ys).1 = 3) := by
  have := packW_length none ys
  rcases packF_err ys with (h | h) | ⟨h, -, h2⟩ <;> rw [h] <;> simp <;> omega

set_option maxRecDepth 100000 in
set_option maxHeartbeats 4000000 in
theorem packs_at (a : Option Addr) (cap : Nat) (ys : List Nat) (w : World) (h : NRow w a ys) (hn : a = none → ys.length = 0 ∧ cap = 0) (hl : ys.length * 8 ≤ 140737488351232) :
    Calls Try.prog 3 #[.slice a ys.length cap] w fun e w' => e = .returned (.bool true) ∧ Below w.heap.size w w' := by
  have hu := Lib.hid (up_true w)
  obtain ⟨hp1, hp2⟩ := packF_len ys
  have hq2 := unF_err ys
  have hq1 := unF_len ys
  obtain ⟨c1, r1, hF1⟩ : ∃ c r, packF ys = (c, r) := ⟨_, _, rfl⟩
  obtain ⟨c2, r2, hF2⟩ : ∃ c r, unF ys = (c, r) := ⟨_, _, rfl⟩
  rw [hF1] at hp1 hp2
  rw [hF2] at hq1 hq2
  simp only at hp1 hp2 hq1 hq2
  have HF1 := Lib.hid hF1; have HF2 := Lib.hid hF2
  clear hF1 hF2
  have hc1 : (c1 : Int) ≤ 30 := by omega
  have hc2 : (c2 : Int) ≤ 30 := by omega
  clear hp2 hq2
  have HC1 := Lib.hid (fun (w1 : World) => code_any (c1 : Int) w1 (by omega) hc1)
  have HC2 := Lib.hid (fun (w1 : World) => code_any (c2 : Int) w1 (by omega) hc2)
  have HL := Lib.hid (show (toI ys).length = ys.length from toI_length ys)
  have H := Lib.hid h
  have HN := Lib.hid (show a = none → (toI ys).length = 0 ∧ cap = 0 from by rw [toI_length]; exact hn)
  clear h hn
  go_enter Try.func3, Try.ntmps3
  go_wp2_with fail
  refine hu.out.mono ?_
  rintro e w1 ⟨rfl, hb1⟩
  have B1 := Lib.hid hb1
  have hs1 := hb1.size
  clear hb1
  go_wp2_with (first
    | (at_builtin; refine wpList_pushes rfl (.tmp 17) (.tmp 18) slice64 rfl w1.heap.size w1 _ [] 0 a cap ys.length (toI ys) rfl rfl rfl HL.out (H.out.below B1.out).1 HN.out (OwnI.nil _ _ _ _) (by unfold maxLen; omega) (by omega) (Below.refl _ _) (Nat.le_refl _) ?_; intro ad cp w2 hown2 hbe2; have O2 : Hid (OwnI w2 w1.heap.size 33 .u64 (.slice ad (0 + ys.length) cp) (toI ys)) := Lib.hid hown2; clear hown2; have S2 := Lib.hid hbe2; clear hbe2)
    | fail)
  rw [Nat.zero_add] at O2
  have HR2 := Lib.hid (show NRow w2 ad ys from ⟨O2.out.at.2.1, H.out.2⟩)
  refine (pack_any ad cp ys w2 HR2.out hl).mono ?_
  intro e w3 ht
  obtain ⟨ad3, cp3, rfl, ho3, hb3, hs3⟩ := ht.at HF1.out (Below.refl _ _)
  have O3 := Lib.hid ho3; have S3 := Lib.hid hs3; clear ht ho3 hb3 hs3
  unfold progEnd
  go_wp2_with fail
  refine (unpack_any ad cp ys w3 (HR2.out.below S3.out) hl).mono ?_
  intro e w4 ht
  obtain ⟨ad4, cp4, rfl, ho4, hb4, hs4⟩ := ht.at HF2.out (Below.refl _ _)
  have O4 := Lib.hid ho4; have S4 := Lib.hid hs4; clear ht ho4 hb4 hs4
  unfold progEnd
  go_wp2_with fail
  have HR4 := Lib.hid (H.out.below (bstep B1.out (bstep S2.out (bstep S3.out S4.out))))
  refine (refPack_any a cap ys w4 HR4.out hl).mono ?_
  intro e w5 ht
  obtain ⟨ad5, cp5, rfl, ho5, hb5, hs5⟩ := ht.at HF1.out (Below.refl _ _)
  have O5 := Lib.hid ho5; have S5 := Lib.hid hs5; clear ht ho5 hb5 hs5
  unfold refEnd
  go_wp2_with fail
  refine (refUnpack_any a cap ys w5 (HR4.out.below S5.out) hl).mono ?_
  intro e w6 ht
  obtain ⟨ad6, cp6, rfl, ho6, hb6, hs6⟩ := ht.at HF2.out (Below.refl _ _)
  have O6 := Lib.hid ho6; have S6 := Lib.hid hs6; clear ht ho6 hb6 hs6
  unfold refEnd
  go_wp2_with fail
  refine (alike_eq ad3 ad5 cp3 cp5 r1.length r1.length (toI r1) w6 (toI_length _) (toI_length _) (O3.out.below (bstep S4.out (bstep S5.out S6.out))).at.2.1 (O5.out.below S6.out).at.2.1 (by rw [toI_length]; unfold maxLen; omega)).mono ?_
  rintro e w7 ⟨rfl, hb7⟩
  have S7 := Lib.hid hb7; clear hb7
  go_wp2_with fail
  refine (alike_eq ad4 ad6 cp4 cp6 r2.length r2.length (toI r2) w7 (toI_length _) (toI_length _) (O4.out.below (bstep S5.out (bstep S6.out S7.out))).at.2.1 (O6.out.below S7.out).at.2.1 (by rw [toI_length]; unfold maxLen; omega)).mono ?_
  rintro e w8 ⟨rfl, hb8⟩
  have S8 := Lib.hid hb8; clear hb8
  go_wp2_with fail
  have S28 := Lib.hid (bstep S3.out (bstep S4.out (bstep S5.out (bstep S6.out (bstep S7.out S8.out)))))
  refine (alike_eq ad a cp cap ys.length ys.length (toI ys) w8 (toI_length _) (toI_length _) (O2.out.below S28.out).at.2.1 (H.out.1.below (bstep B1.out (bstep S2.out S28.out))) (by rw [toI_length]; unfold maxLen; omega)).mono ?_
  rintro e w9 ⟨rfl, hb9⟩
  have S9 := Lib.hid (bstep B1.out (bstep S2.out (bstep S28.out hb9))); clear hb9
  generalize errV (c1 : Int) = e1 at *
  generalize errV (c2 : Int) = e2 at *
  go_wp2_with fail
  refine (HC1.out w9).mono ?_
  rintro e w10 ⟨rfl, rfl⟩
  go_wp2_with fail
  refine (HC2.out w9).mono ?_
  rintro e w11 ⟨rfl, rfl⟩
  go_wp2_with fail
  go_ret
  exact ⟨rfl, S9.out⟩

theorem walk_RelsPacks (a0 : Option Addr) (len0 cap0 : Nat) (z0 : List Int) (w : World) (w0 : IsRow .u64 w a0 len0 cap0 z0) (s0 : cap0 * 8 ≤ 140737488351232) :
    Calls Try.prog 3 #[.slice a0 len0 cap0] w fun e w' => e = .returned (.bool true) ∧ Below w.heap.size w w' := by
  obtain ⟨xs, rfl, hrow, hwf, hlc, hlm, hn⟩ := w0.row
  obtain ⟨ys, rfl, hys, hN⟩ := NRow.of hrow hwf
  rw [← hys] at hn hlc ⊢
  exact packs_at a0 cap0 ys w hN hn (by omega)
set_option maxRecDepth 100000 in
set_option maxHeartbeats 4000000 in
theorem back_err (c : Nat) (hc : c = 2 ∨ c = 3) (a : Option Addr) (cap : Nat) (ys : List Nat) (w : World) (h : NRow w a ys) (hF : packF ys = (c, [])) (hl : ys.length * 8 ≤ 140737488351232) :
    Calls Try.prog 4 #[.slice a ys.length cap] w fun e w' => e = .returned (.bool true) ∧ Below w.heap.size w w' := by
  have hu := Lib.hid (up_true w)
  have HF := Lib.hid hF
  have H := Lib.hid h
  clear hF h
  rcases hc with rfl | rfl <;>
  · go_enter Try.func4, Try.ntmps4
    go_wp2_with fail
    refine hu.out.mono ?_
    rintro e w1 ⟨rfl, hb1⟩
    have B1 := Lib.hid hb1
    clear hb1
    go_wp2_with fail
    refine (pack_any a cap ys w1 (H.out.below B1.out) hl).mono ?_
    intro e w2 ht
    obtain ⟨ad2, cp2, rfl, -, -, hs2⟩ := ht.at HF.out (Below.refl _ _)
    have S2 := Lib.hid (bstep B1.out hs2)
    clear ht hs2 B1
    simp only [progEnd, errV, List.length_nil]
    go_wp2_with fail
    go_ret
    exact ⟨rfl, S2.out⟩

set_option maxRecDepth 100000 in
set_option maxHeartbeats 4000000 in
theorem back_yes (a : Option Addr) (cap : Nat) (ys r : List Nat) (w : World) (h : NRow w a ys) (hF : packF ys = (0, r)) (hU : unF r = (0, ys)) (hr : r.length ≤ ys.length) (hrb : ∀ y ∈ r, y < 18446744073709551616) (hl : ys.length * 8 ≤ 140737488351232) :
    Calls Try.prog 4 #[.slice a ys.length cap] w fun e w' => e = .returned (.bool true) ∧ Below w.heap.size w w' := by
  have hu := Lib.hid (up_true w)
  have HF := Lib.hid hF
  have HU := Lib.hid hU
  have H := Lib.hid h
  have HRB := Lib.hid hrb
  clear hF hU h hrb
  go_enter Try.func4, Try.ntmps4
  go_wp2_with fail
  refine hu.out.mono ?_
  rintro e w1 ⟨rfl, hb1⟩
  have B1 := Lib.hid hb1
  clear hb1
  go_wp2_with fail
  refine (pack_any a cap ys w1 (H.out.below B1.out) hl).mono ?_
  intro e w2 ht
  obtain ⟨ad2, cp2, rfl, ho2, -, hs2⟩ := ht.at HF.out (Below.refl _ _)
  have S2 := Lib.hid (bstep B1.out hs2)
  have O2 := Lib.hid ho2
  clear ht hs2 B1 ho2
  simp only [progEnd, errV]
  go_wp2_with fail
  refine (unpack_any ad2 cp2 r w2 ⟨O2.out.at.2.1, HRB.out⟩ (by omega)).mono ?_
  intro e w3 ht
  obtain ⟨ad3, cp3, rfl, ho3, -, hs3⟩ := ht.at HU.out (Below.refl _ _)
  have S3 := Lib.hid (bstep S2.out hs3)
  have O3 := Lib.hid ho3
  clear ht hs3 S2 ho3
  simp only [progEnd, errV]
  go_wp2_with fail
  refine (alike_eq ad3 a cp3 cap ys.length ys.length (toI ys) w3 (toI_length _) (toI_length _) O3.out.at.2.1 (H.out.1.below S3.out) (by rw [toI_length]; unfold maxLen; omega)).mono ?_
  rintro e w4 ⟨rfl, hb4⟩
  have S4 := Lib.hid (bstep S3.out hb4)
  clear hb4 S3
  go_wp2_with fail
  go_ret
  exact ⟨rfl, S4.out⟩

theorem packW_lt (o : Option Nat) (ys : List Nat) (hp : ys.Pairwise (· < ·)) (hb : ∀ y ∈ ys, y < 18446744073709551616) : ∀ y ∈ packW o ys, y < 18446744073709551616 := by
  induction o, ys using packW.induct with
  | case1 => rw [packW_nil]; simp
  | case2 x xs ih =>
    rw [packW_cons]
    intro y hy
    rcases List.mem_cons.1 hy with rfl | hy
    · exact hb _ (by simp)
    · exact ih (List.pairwise_cons.1 hp).2 (fun z hz => hb z (by simp [hz])) y hy
  | case3 N xs h ih => rw [packW_stop h]; exact ih hp hb
  | case4 N xs h ih =>
    rw [packW_word rfl h]
    intro y hy
    rcases List.mem_cons.1 hy with rfl | hy
    · have hf : ∀ z ∈ xs.take (spanK N xs), fits N z ∧ z < 18446744073709551616 := fun z hz => ⟨spanK_fits N xs z hz, hb z (List.mem_of_mem_take hz)⟩
      have := (word_back N (xs.take (spanK N xs)) hf (hp.sublist (List.take_sublist _ _))).1 63 (fun z hz => by
        have := (hf z hz).1
        unfold fits at this
        omega)
      exact this
    · exact ih (hp.sublist (List.drop_sublist _ _)) (fun z hz => hb z (List.mem_of_mem_drop hz)) y hy

theorem walk_RelsBack (a0 : Option Addr) (len0 cap0 : Nat) (z0 : List Int) (w : World) (w0 : IsRow .u64 w a0 len0 cap0 z0) (s0 : cap0 * 8 ≤ 140737488351232) :
    Calls Try.prog 4 #[.slice a0 len0 cap0] w fun e w' => e = .returned (.bool true) ∧ Below w.heap.size w w' := by
  obtain ⟨xs, rfl, hrow, hwf, hlc, hlm, hn⟩ := w0.row
  obtain ⟨ys, rfl, hys, hN⟩ := NRow.of hrow hwf
  rw [← hys] at hn hlc ⊢
  rcases packF_err ys with (h | h) | ⟨h, hok, h2⟩
  · exact back_err 3 (.inr rfl) a0 cap0 ys w hN h (by omega)
  · exact back_err 2 (.inl rfl) a0 cap0 ys w hN h (by omega)
  · exact back_yes a0 cap0 ys _ w hN h (back hok h2 hN.2) (packW_length none ys) (packW_lt none ys (okTo_pair hok) hN.2) (by omega)
end Go.Proofs.Ytgdaeddcmplpkaa
