/- Layer 6: the table of strings of a file: the program's answer. -/
import Derived.Test.YtikpkblemegggaaSymF
import Derived.Test.YtikpkblemegggaaDyn
namespace Go.Proofs.Ytikpkblemegggaa
open Go.RowKit
set_option linter.unusedVariables false
set_option linter.unusedSimpArgs false

/-- the table of strings; an error's number behind -/
def strF (bs : List Nat) (ps : List PT) (at_ size : Nat) : List Nat × Nat :=
  if 1048576 < size then ([], 2) else if (sliceF bs ps at_ size).2 ≠ 0 then ([], (sliceF bs ps at_ size).2)
  else if size = 0 ∨ (sliceF bs ps at_ size).1.getD 0 0 ≠ 0 ∨ (sliceF bs ps at_ size).1.getD (size - 1) 0 ≠ 0 then ([], 3) else ((sliceF bs ps at_ size).1, 0)
theorem strF_len {bs : List Nat} {ps : List PT} {at_ size : Nat} (h : (strF bs ps at_ size).2 = 0) : (strF bs ps at_ size).1.length = size ∧ strF bs ps at_ size = ((sliceF bs ps at_ size).1, 0) ∧ (sliceF bs ps at_ size).2 = 0 := by
  unfold strF at h ⊢
  split at h
  · simp at h
  · split at h
    · rename_i h2; exact absurd h h2
    · split at h
      · simp at h
      · rename_i h1 h2 h3
        rw [if_neg h1, if_neg h2, if_neg h3]
        have h2' : (sliceF bs ps at_ size).2 = 0 := by simpa using h2
        refine ⟨?_, rfl, h2'⟩
        unfold sliceF at h2' ⊢
        split
        · rename_i h4
          simp; omega
        · rename_i h4
          rw [if_neg h4] at h2'
          simp at h2'
theorem strF_code (bs : List Nat) (ps : List PT) (at_ size : Nat) : (strF bs ps at_ size).2 = 0 ∨ strF bs ps at_ size = ([], 2) ∨ strF bs ps at_ size = ([], 3) ∨ strF bs ps at_ size = ([], 4) := by
  unfold strF
  split
  · right; left; rfl
  · split
    · unfold sliceF at *
      split
      · rename_i h1 h2 h3; rw [if_pos h3] at h2; exact absurd rfl h2
      · right; right; right; rfl
    · split
      · right; right; left; rfl
      · left; rfl
theorem sliceF_alt (bs : List Nat) (ps : List PT) (at_ size : Nat) : (∃ s, sliceF bs ps at_ size = (s, 0) ∧ s.length = size ∧ ∀ b ∈ s, b ∈ bs) ∨ sliceF bs ps at_ size = ([], 4) := by
  unfold sliceF
  split
  · left
    rename_i h
    exact ⟨_, rfl, by simp; omega, fun b hb => List.mem_of_mem_drop (List.mem_of_mem_take hb)⟩
  · right; rfl

set_option maxRecDepth 100000 in
set_option maxHeartbeats 4000000 in
theorem strings_any (a : Option Addr) (cap : Nat) (bs : List Nat) (ty en : Int) (p : Option Addr) (pc : Nat) (ps : List PT) (d : DT) (w : World) (hb : BRow w a bs) (hbl : bs.length ≤ 140737488351232) (hbc : bs.length ≤ cap) (hbn : a = none → bs.length = 0 ∧ cap = 0)
    (h : PRow w p ps) (hl : ps.length ≤ 140737488351232) (ha : d.strtab < 18446744073709551616) (hs : d.strsz < 18446744073709551616) :
    Calls Try.prog 14 #[.slice a bs.length cap, headV ty en p ps.length pc, .agg d.cells] w fun e w' => ∃ ad c, e = .returned (.tuple #[.slice ad (strF bs ps d.strtab d.strsz).1.length c, errV ((strF bs ps d.strtab d.strsz).2 : Int)]) ∧
      OwnI w' w.heap.size 5 .u8 (.slice ad (strF bs ps d.strtab d.strsz).1.length c) (toI (strF bs ps d.strtab d.strsz).1) ∧ Below w.heap.size w w' := by
  have HSL := Lib.hid (fun (w1 : World) (hb1 : Below w.heap.size w w1) => slice_any a cap bs ty en p pc ps d.strtab d.strsz w1 (hb.below hb1) hbl hbc hbn (h.below hb1) hl ha hs)
  have HBB := Lib.hid hb.2
  clear h hb hbn
  have B1 : Hid (Below w.heap.size w ((w.alloc (.cells #[.int .i64 ty, .int .u64 en, .slice p ps.length pc] 26)).alloc (.cells d.cells 29))) := Lib.hid (((Below.refl _ _).alloc (Nat.le_refl _) _).alloc (by simp) _)
  unfold DT.cells at *
  generalize d.strsz = size at *
  generalize d.strtab = at_ at *
  by_cases h1 : 1048576 < size
  · have hF : strF bs ps at_ size = ([], 2) := by rw [strF, if_pos h1]
    rw [hF]
    clear hF
    unfold headV
    go_enter Try.func14, Try.ntmps14
    go_wp2
    go_ret2
    exact ⟨none, 0, rfl, OwnI.nil _ _ _ _, B1.out⟩
  · rcases sliceF_alt bs ps at_ size with ⟨s, hS, hsl, hsm⟩ | hS
    · have hF : strF bs ps at_ size = if size = 0 ∨ s.getD 0 0 ≠ 0 ∨ s.getD (size - 1) 0 ≠ 0 then ([], 3) else (s, 0) := by rw [strF, if_neg h1, hS, if_neg (by simp)]
      rw [hF]
      rw [hS] at HSL
      have HSB := Lib.hid (fun b hb => HBB.out b (hsm b hb))
      clear hF hS hsm HBB
      have HL := Lib.hid hsl
      simp only at HSL
      rw [hsl] at HSL
      clear hsl
      by_cases hz : size = 0
      · rw [if_pos (.inl hz)]
        subst hz
        unfold headV at *
        go_enter Try.func14, Try.ntmps14
        go_wp2_with fail
        refine (HSL.out _ B1.out).mono ?_
        rintro e w2 ⟨ad, c, rfl, ho, hb2⟩
        have HB := Lib.hid (bstep B1.out hb2)
        clear ho hb2 HSL B1
        simp only [errV]
        go_wp2
        go_ret2
        exact ⟨none, 0, rfl, OwnI.nil _ _ _ _, HB.out⟩
      · have mem0 : ∀ (w2 : World) (ad : Option Addr) (c : Nat), OwnI w2 w.heap.size 5 .u8 (.slice ad size c) (toI s) → ∃ b o, ad = some ⟨b, o, none⟩ ∧ w2.cell? ⟨b, o, none⟩ = some (.int .u8 ((s.getD 0 0 : Nat) : Int)) ∧ w2.cell? ⟨b, o + (size - 1), none⟩ = some (.int .u8 ((s.getD (size - 1) 0 : Nat) : Int)) := by
          intro w2 ad c ho
          have hr : BRow w2 ad s := ⟨ho.at.2.1, HSB.out⟩
          have hl2 := HL.out
          obtain ⟨b, o, e, -, hc0, -⟩ := hr.at (i := 0) (by omega)
          obtain ⟨b', o', e', -, hc1, -⟩ := hr.at (i := size - 1) (by omega)
          rw [e] at e'
          simp only [Option.some.injEq, Addr.mk.injEq, and_true] at e'
          obtain ⟨rfl, rfl⟩ := e'
          exact ⟨b, o, e, by simpa using hc0, hc1⟩
        have HM := Lib.hid mem0
        clear mem0
        have hzz : ((size : Int) == 0) = false := by rw [beq_eq_false_iff_ne]; omega
        have hx1l : (((size : Int) - 1).toNat) = size - 1 := by omega
        by_cases hx0 : s.getD 0 0 = 0
        · by_cases hx1 : s.getD (size - 1) 0 = 0
          · rw [if_neg (by simp only [hx0, hx1, hz]; simp)]
            rw [hx0, hx1] at HM
            clear hx0 hx1
            unfold headV at *
            go_enter Try.func14, Try.ntmps14
            go_wp2_with fail
            refine (HSL.out _ B1.out).mono ?_
            rintro e w2 ⟨ad, c, rfl, ho, hb2⟩
            have HB := Lib.hid (bstep B1.out hb2)
            have HO := Lib.hid (ho.mono B1.out.size)
            obtain ⟨b0, o0, rfl, hc0, hc1⟩ := HM.out _ _ _ HO.out
            clear ho hb2 HSL B1
            simp only [errV]
            go_wp2
            go_ret2
            simp only [HL.out]
            exact ⟨_, c, rfl, HO.out, HB.out⟩
          · rw [if_pos (.inr (.inr hx1))]
            rw [hx0] at HM
            have hb1 : (((s.getD (size - 1) 0 : Nat) : Int) != 0) = true := by rw [bne_iff_ne]; omega
            clear hx0 hx1
            generalize s.getD (size - 1) 0 = x1 at *
            unfold headV at *
            go_enter Try.func14, Try.ntmps14
            go_wp2_with fail
            refine (HSL.out _ B1.out).mono ?_
            rintro e w2 ⟨ad, c, rfl, ho, hb2⟩
            have HB := Lib.hid (bstep B1.out hb2)
            have HO := Lib.hid (ho.mono B1.out.size)
            obtain ⟨b0, o0, rfl, hc0, hc1⟩ := HM.out _ _ _ HO.out
            clear ho hb2 HSL B1
            simp only [errV]
            go_wp2
            go_ret2
            exact ⟨none, 0, rfl, OwnI.nil _ _ _ _, HB.out⟩
        · rw [if_pos (.inr (.inl hx0))]
          have hb1 : (((s.getD 0 0 : Nat) : Int) != 0) = true := by rw [bne_iff_ne]; omega
          clear hx0
          generalize s.getD 0 0 = x0 at *
          unfold headV at *
          go_enter Try.func14, Try.ntmps14
          go_wp2_with fail
          refine (HSL.out _ B1.out).mono ?_
          rintro e w2 ⟨ad, c, rfl, ho, hb2⟩
          have HB := Lib.hid (bstep B1.out hb2)
          have HO := Lib.hid (ho.mono B1.out.size)
          obtain ⟨b0, o0, rfl, hc0, hc1⟩ := HM.out _ _ _ HO.out
          clear ho hb2 HSL B1
          simp only [errV]
          go_wp2
          go_ret2
          exact ⟨none, 0, rfl, OwnI.nil _ _ _ _, HB.out⟩
    · have hF : strF bs ps at_ size = ([], 4) := by rw [strF, if_neg h1, hS, if_pos (by simp)]
      rw [hF]
      rw [hS] at HSL
      clear hF hS
      unfold headV at *
      go_enter Try.func14, Try.ntmps14
      go_wp2_with fail
      refine (HSL.out _ B1.out).mono ?_
      rintro e w2 ⟨ad, c, rfl, ho, hb2⟩
      have HB := Lib.hid (bstep B1.out hb2)
      clear ho hb2 HSL B1
      simp only [errV]
      go_wp2
      go_ret2
      exact ⟨none, 0, rfl, OwnI.nil _ _ _ _, HB.out⟩
end Go.Proofs.Ytikpkblemegggaa
