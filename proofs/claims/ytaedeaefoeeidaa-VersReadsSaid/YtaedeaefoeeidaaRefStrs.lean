/- Layers 5 and 6, the document's own answer: the bytes of a file at an address; the table of strings. -/
import Derived.Test.YtaedeaefoeeidaaRefSlice
import Derived.Test.YtaedeaefoeeidaaSymStrs
namespace Go.Proofs.Ytaedeaefoeeidaa
open Go.RowKit
set_option linter.unusedVariables false
set_option linter.unusedSimpArgs false

theorem BRow.nil (w : World) (a : Option Addr) : BRow w a [] := ⟨fun i hi => by simp [toI] at hi, fun b hb => by cases hb⟩

/-- bytes that are answered, and an error's number -/
def CutAns (F : List Nat × Nat) (w : World) (e : Ending) (w' : World) : Prop :=
  ∃ ad c, e = .returned (.tuple #[.slice ad F.1.length c, .int .i64 (F.2 : Int)]) ∧ BRow w' ad F.1 ∧ F.1.length ≤ c ∧ (ad = none → F.1.length = 0 ∧ c = 0) ∧ Below w.heap.size w w'
theorem CutAns.no {F : List Nat × Nat} {c : Nat} {w w' : World} (h : F = ([], c)) (hb : Below w.heap.size w w') : CutAns F w (.returned (.tuple #[.slice none 0 0, .int .i64 (c : Int)])) w' := by
  subst h
  exact ⟨none, 0, rfl, BRow.nil _ _, Nat.le_refl _, fun _ => ⟨rfl, rfl⟩, hb⟩

set_option maxRecDepth 100000 in
set_option maxHeartbeats 4000000 in
theorem refSlice_any (a : Option Addr) (cap : Nat) (bs : List Nat) (ty en : Int) (p : Option Addr) (pc : Nat) (ps : List PT) (addr size : Nat) (w : World) (hb : BRow w a bs) (hbl : bs.length ≤ 140737488351232) (hbc : bs.length ≤ cap) (hbn : a = none → bs.length = 0 ∧ cap = 0)
    (h : PRow w p ps) (hl : ps.length ≤ 140737488351232) (ha : addr < 18446744073709551616) (hs : size < 18446744073709551616) :
    Calls Try.prog 15 #[.slice a bs.length cap, headV ty en p ps.length pc, .int .u64 addr, .int .u64 size] w (CutAns (sliceF bs ps addr size) w) := by
  have HO := Lib.hid (fun (w1 : World) (hb1 : Below w.heap.size w w1) => refOffset_any ty en p pc ps addr size w1 (h.below hb1) hl ha hs)
  have hlt := offF_lt ps addr size
  have B1 : Hid (Below w.heap.size w (w.alloc (.cells #[.int .i64 ty, .int .u64 en, .slice p ps.length pc] 26))) := Lib.hid ((Below.refl _ _).alloc (Nat.le_refl _) _)
  rcases offF_code ps addr size with h0 | h4
  · obtain ⟨o, ho⟩ : ∃ o, offF ps addr size = (o, 0) := ⟨(offF ps addr size).1, by rw [← h0]⟩
    rw [ho] at HO hlt
    simp only at HO hlt
    by_cases hin : o ≤ bs.length ∧ size ≤ bs.length - o
    · have hF := sliceF_yes ho hin.1 hin.2
      rw [hF]
      have HC := Lib.hid (fun (w1 : World) (hb1 : Below w.heap.size w w1) => refCut_any a cap bs o size w1 (hb.below hb1) hbl hbc hbn hlt hs hin)
      have hl : ((bs.drop o).take size).length = size := by simp; omega
      have HL := Lib.hid hl
      clear hb hbn h hF ho h0 hl
      unfold headV at *
      go_enter Try.func15, Try.ntmps15
      go_wp2_with fail
      refine (HO.out _ B1.out).mono ?_
      rintro e w2 ⟨rfl, hb2⟩
      have B2 := Lib.hid (bstep B1.out hb2)
      clear hb2 HO B1
      go_wp2_with fail
      refine (HC.out _ B2.out).mono ?_
      rintro e w3 ⟨⟨ad, c, rfl, hr, hsc, hn⟩, rfl⟩
      have HR := Lib.hid hr
      have HN := Lib.hid hn
      clear HC hr hn
      go_wp2
      go_ret2
      refine ⟨ad, c, ?_, HR.out, ?_, ?_, B2.out⟩
      · rw [HL.out]; rfl
      · rw [HL.out]; exact hsc
      · rw [HL.out]; exact HN.out
    · have hF := sliceF_out ho hin
      rw [hF]
      have HC := Lib.hid (fun (w1 : World) => refCut_out a cap bs o size w1 hbl hlt hs hin)
      clear hb hbn h hF ho h0
      unfold headV at *
      go_enter Try.func15, Try.ntmps15
      go_wp2_with fail
      refine (HO.out _ B1.out).mono ?_
      rintro e w2 ⟨rfl, hb2⟩
      have B2 := Lib.hid (bstep B1.out hb2)
      clear hb2 HO B1
      go_wp2_with fail
      refine (HC.out _).mono ?_
      rintro e w3 ⟨rfl, rfl⟩
      go_wp2
      go_ret2
      exact CutAns.no (c := 4) rfl B2.out
  · have hF := sliceF_off (bs := bs) h4
    rw [hF]
    rw [h4] at HO
    simp only at HO
    clear hb hbn h hF h4 hlt
    unfold headV at *
    go_enter Try.func15, Try.ntmps15
    go_wp2_with fail
    refine (HO.out _ B1.out).mono ?_
    rintro e w2 ⟨rfl, hb2⟩
    have B2 := Lib.hid (bstep B1.out hb2)
    clear hb2 HO B1
    go_wp2
    go_ret2
    exact CutAns.no (c := 4) rfl B2.out

set_option maxRecDepth 100000 in
set_option maxHeartbeats 4000000 in
theorem refStrings_any (a : Option Addr) (cap : Nat) (bs : List Nat) (ty en : Int) (p : Option Addr) (pc : Nat) (ps : List PT) (d : DT) (w : World) (hb : BRow w a bs) (hbl : bs.length ≤ 140737488351232) (hbc : bs.length ≤ cap) (hbn : a = none → bs.length = 0 ∧ cap = 0)
    (h : PRow w p ps) (hl : ps.length ≤ 140737488351232) (ha : d.strtab < 18446744073709551616) (hs : d.strsz < 18446744073709551616) :
    Calls Try.prog 14 #[.slice a bs.length cap, headV ty en p ps.length pc, .agg d.cells] w (CutAns (strF bs ps d.strtab d.strsz) w) := by
  have HSL := Lib.hid (fun (w1 : World) (hb1 : Below w.heap.size w w1) => refSlice_any a cap bs ty en p pc ps d.strtab d.strsz w1 (hb.below hb1) hbl hbc hbn (h.below hb1) hl ha hs)
  have HBB := Lib.hid hb.2
  clear h hb hbn
  have B1 : Hid (Below w.heap.size w ((w.alloc (.cells #[.int .i64 ty, .int .u64 en, .slice p ps.length pc] 26)).alloc (.cells d.cells 29))) := Lib.hid (((Below.refl _ _).alloc (Nat.le_refl _) _).alloc (by simp) _)
  unfold DT.cells at *
  generalize d.strsz = size at *
  generalize d.strtab = at_ at *
  by_cases h1 : 1048576 < size
  · have hF : strF bs ps at_ size = ([], 2) := by rw [strF, if_pos h1]
    rw [hF]
    clear hF
    unfold headV
    go_enter Try.func14, Try.ntmps14
    go_wp2
    go_ret2
    exact CutAns.no (c := 2) rfl B1.out
  · rcases sliceF_alt bs ps at_ size with ⟨s, hS, hsl, hsm⟩ | hS
    · have hF : strF bs ps at_ size = if size = 0 ∨ s.getD 0 0 ≠ 0 ∨ s.getD (size - 1) 0 ≠ 0 then ([], 3) else (s, 0) := by rw [strF, if_neg h1, hS, if_neg (by simp)]
      rw [hF]
      rw [hS] at HSL
      have HSB := Lib.hid (fun b hb => HBB.out b (hsm b hb))
      clear hF hS hsm HBB
      have HL := Lib.hid hsl
      unfold CutAns at HSL
      simp only at HSL
      rw [hsl] at HSL
      clear hsl
      by_cases hz : size = 0
      · rw [if_pos (.inl hz)]
        subst hz
        unfold headV at *
        go_enter Try.func14, Try.ntmps14
        go_wp2_with fail
        refine (HSL.out _ B1.out).mono ?_
        rintro e w2 ⟨ad, c, rfl, hr, hc, hn, hb2⟩
        have HB := Lib.hid (bstep B1.out hb2)
        clear hr hn hb2 HSL B1
        go_wp2
        go_ret2
        exact CutAns.no (c := 3) rfl HB.out
      · have mem0 : ∀ (w2 : World) (ad : Option Addr), BRow w2 ad s → ∃ b o, ad = some ⟨b, o, none⟩ ∧ w2.cell? ⟨b, o, none⟩ = some (.int .u8 ((s.getD 0 0 : Nat) : Int)) ∧ w2.cell? ⟨b, o + (size - 1), none⟩ = some (.int .u8 ((s.getD (size - 1) 0 : Nat) : Int)) := by
          intro w2 ad hr
          have hl2 := HL.out
          obtain ⟨b, o, e, -, hc0, -⟩ := hr.at (i := 0) (by omega)
          obtain ⟨b', o', e', -, hc1, -⟩ := hr.at (i := size - 1) (by omega)
          rw [e] at e'
          simp only [Option.some.injEq, Addr.mk.injEq, and_true] at e'
          obtain ⟨rfl, rfl⟩ := e'
          exact ⟨b, o, e, by simpa using hc0, hc1⟩
        have HM := Lib.hid mem0
        clear mem0
        have hzz : ((size : Int) == 0) = false := by rw [beq_eq_false_iff_ne]; omega
        have hx1l : (((size : Int) - 1).toNat) = size - 1 := by omega
        by_cases hx0 : s.getD 0 0 = 0
        · by_cases hx1 : s.getD (size - 1) 0 = 0
          · rw [if_neg (by simp only [hx0, hx1, hz]; simp)]
            rw [hx0, hx1] at HM
            clear hx0 hx1
            unfold headV at *
            go_enter Try.func14, Try.ntmps14
            go_wp2_with fail
            refine (HSL.out _ B1.out).mono ?_
            rintro e w2 ⟨ad, c, rfl, hr, hc, hn, hb2⟩
            have HB := Lib.hid (bstep B1.out hb2)
            have HR := Lib.hid hr
            obtain ⟨b0, o0, rfl, hc0, hc1⟩ := HM.out _ _ HR.out
            clear hr hn hb2 HSL B1
            go_wp2
            go_ret2
            exact ⟨_, c, by rw [HL.out]; rfl, HR.out, by rw [HL.out]; exact hc, (fun h => by cases h), HB.out⟩
          · rw [if_pos (.inr (.inr hx1))]
            rw [hx0] at HM
            have hb1 : (((s.getD (size - 1) 0 : Nat) : Int) != 0) = true := by rw [bne_iff_ne]; omega
            clear hx0 hx1
            generalize s.getD (size - 1) 0 = x1 at *
            unfold headV at *
            go_enter Try.func14, Try.ntmps14
            go_wp2_with fail
            refine (HSL.out _ B1.out).mono ?_
            rintro e w2 ⟨ad, c, rfl, hr, hc, hn, hb2⟩
            have HB := Lib.hid (bstep B1.out hb2)
            obtain ⟨b0, o0, rfl, hc0, hc1⟩ := HM.out _ _ hr
            clear hr hn hb2 HSL B1
            go_wp2
            go_ret2
            exact CutAns.no (c := 3) rfl HB.out
        · rw [if_pos (.inr (.inl hx0))]
          have hb1 : (((s.getD 0 0 : Nat) : Int) != 0) = true := by rw [bne_iff_ne]; omega
          clear hx0
          generalize s.getD 0 0 = x0 at *
          unfold headV at *
          go_enter Try.func14, Try.ntmps14
          go_wp2_with fail
          refine (HSL.out _ B1.out).mono ?_
          rintro e w2 ⟨ad, c, rfl, hr, hc, hn, hb2⟩
          have HB := Lib.hid (bstep B1.out hb2)
          obtain ⟨b0, o0, rfl, hc0, hc1⟩ := HM.out _ _ hr
          clear hr hn hb2 HSL B1
          go_wp2
          go_ret2
          exact CutAns.no (c := 3) rfl HB.out
    · have hF : strF bs ps at_ size = ([], 4) := by rw [strF, if_neg h1, hS, if_pos (by simp)]
      rw [hF]
      rw [hS] at HSL
      clear hF hS
      unfold headV at *
      go_enter Try.func14, Try.ntmps14
      go_wp2_with fail
      refine (HSL.out _ B1.out).mono ?_
      rintro e w2 ⟨ad, c, rfl, hr, hc, hn, hb2⟩
      have HB := Lib.hid (bstep B1.out hb2)
      clear hr hn hb2 HSL B1
      go_wp2
      go_ret2
      exact CutAns.no (c := 4) rfl HB.out
end Go.Proofs.Ytaedeaefoeeidaa
