/- Layer 8, the document's own answer: the versions of a file: its walk, where there are any (case b). -/
import Derived.Test.YtaedeaefoeeidaaRefVersK
namespace Go.Proofs.Ytaedeaefoeeidaa
open Go.RowKit Go.Maps
set_option linter.unusedVariables false
set_option linter.unusedSimpArgs false

set_option maxRecDepth 100000 in
set_option maxHeartbeats 16000000 in
theorem rread_b (a : Option Addr) (cap : Nat) (bs : List Nat) (ty en : Int) (p : Option Addr) (pc : Nat) (ps : List PT) (d : DT) (m : Nat) (w : World) (hb : BRow w a bs) (hbl : bs.length ≤ 140737488351232) (hbc : bs.length ≤ cap) (hbn : a = none → bs.length = 0 ∧ cap = 0)
    (h : PRow w p ps) (hl : ps.length ≤ 140737488351232) (hd : d.wf) (hm : m ≤ 4096) (hv : ¬ d.versym = 0) (hx1 : d.verdef = 0) (hx2 : ¬ d.verneed = 0) :
    Calls Try.prog 6 #[.slice a bs.length cap, headV ty en p ps.length pc, .agg d.cells, .int .i64 (m : Int)] w (RVersAns (versF bs ps d m) w) := by
  obtain ⟨X, hX⟩ : ∃ X, versF bs ps d m = X := ⟨_, rfl⟩
  have hX2 := hX
  rw [hX2]
  unfold versF at hX
  rw [if_neg (by omega), if_neg (by omega), if_neg hv, Int.toNat_natCast] at hX
  clear hX2
  have HST := Lib.hid (fun (w1 : World) (hb1 : Below w.heap.size w w1) => refStrings_any a cap bs ty en p pc ps d w1 (hb.below hb1) hbl hbc hbn (h.below hb1) hl hd.strtab hd.strsz)
  have HSW := Lib.hid (fun (w1 : World) (hb1 : Below w.heap.size w w1) => refSlice_any a cap bs ty en p pc ps d.versym (2 * m) w1 (hb.below hb1) hbl hbc hbn (h.below hb1) hl (by have := hd; simp only [DT.wf] at this; omega) (by omega))
  obtain ⟨S, hS⟩ : ∃ S, strF bs ps d.strtab d.strsz = S := ⟨_, rfl⟩
  obtain ⟨W, hW⟩ : ∃ W, sliceF bs ps d.versym (2 * m) = W := ⟨_, rfl⟩
  obtain ⟨DX, hDX⟩ : ∃ DX, defsF bs ps S.1 [] d.verdef d.verdefnum = DX := ⟨_, rfl⟩
  obtain ⟨NX, hNX⟩ : ∃ NX, needsF bs ps S.1 DX.1.1 d.verneed d.verneednum = NX := ⟨_, rfl⟩
  obtain ⟨OX, hOX⟩ : ∃ OX, ofF NX.1.1 W.1 = OX := ⟨_, rfl⟩
  rw [hS, hW, hDX, hNX, hOX] at hX
  rw [hS] at HST
  rw [hW] at HSW
  have HE1 : Hid (S.2 ≠ 0 → X = (.zero, S.2)) := Lib.hid (fun h => by rw [← hX, if_pos h])
  have HE2 : Hid (¬ S.2 ≠ 0 → W.2 ≠ 0 → X = (.zero, W.2)) := Lib.hid (fun h h2 => by rw [← hX, if_neg h, if_pos h2])
  have HE3 : Hid (¬ S.2 ≠ 0 → ¬ W.2 ≠ 0 → DX.2 ≠ 0 → X = (.zero, DX.2)) := Lib.hid (fun h h2 h3 => by rw [← hX, if_neg h, if_neg h2, if_pos h3])
  have HE4 : Hid (¬ S.2 ≠ 0 → ¬ W.2 ≠ 0 → ¬ DX.2 ≠ 0 → NX.2 ≠ 0 → X = (.zero, NX.2)) := Lib.hid (fun h h2 h3 h4 => by rw [← hX, if_neg h, if_neg h2, if_neg h3, if_pos h4])
  have HE5 : Hid (¬ S.2 ≠ 0 → ¬ W.2 ≠ 0 → ¬ DX.2 ≠ 0 → ¬ NX.2 ≠ 0 → OX.2 ≠ 0 → X = (.zero, OX.2)) := Lib.hid (fun h h2 h3 h4 h5 => by rw [← hX, if_neg h, if_neg h2, if_neg h3, if_neg h4, if_pos h5])
  have HE6 : Hid (¬ S.2 ≠ 0 → ¬ W.2 ≠ 0 → ¬ DX.2 ≠ 0 → ¬ NX.2 ≠ 0 → ¬ OX.2 ≠ 0 → X = (⟨true, OX.1, DX.1.2, NX.1.2⟩, 0)) := Lib.hid (fun h h2 h3 h4 h5 => by rw [← hX, if_neg h, if_neg h2, if_neg h3, if_neg h4, if_neg h5])
  have hWL : W.2 = 0 → W.1.length = 2 * m := by
    rcases sliceF_alt bs ps d.versym (2 * m) with ⟨s, hs, hsl, -⟩ | hs
    · rw [hs] at hW; subst hW; exact fun _ => hsl
    · rw [hs] at hW; subst hW; intro h; simp at h
  have hWB : ∀ x ∈ W.1, x < 256 := by
    rcases sliceF_alt bs ps d.versym (2 * m) with ⟨s, hs, -, hsm⟩ | hs
    · rw [hs] at hW; subst hW; exact fun x hx => hb.2 x (hsm x hx)
    · rw [hs] at hW; subst hW; intro x hx; simp at hx
  have hSL : S.2 = 0 → S.1.length ≤ 1048576 := by
    intro h0
    rcases strF_two bs ps d.strtab d.strsz hb.2 with ⟨s, hs, hsl, -⟩ | ⟨c, hs, hc⟩
    · rw [hs] at hS; subst hS; exact hsl
    · rw [hs] at hS; subst hS; simp only at h0; omega
  have HVD : Hid (d.verdef < 18446744073709551616 ∧ d.verdefnum < 18446744073709551616 ∧ d.verneed < 18446744073709551616 ∧ d.verneednum < 18446744073709551616) := Lib.hid (by have := hd; simp only [DT.wf] at this; omega)
  have HDX0 : Hid (d.verdef = 0 → DX = (([], []), 0)) := Lib.hid (fun h0 => by rw [← hDX]; unfold defsF; rw [if_pos h0])
  have HNX0 : Hid (d.verneed = 0 → NX = ((DX.1.1, []), 0)) := Lib.hid (fun h0 => by rw [← hNX]; unfold needsF; rw [if_pos h0])
  have HGOOD : Hid (∀ (wc : World) (sa : Option Addr) (sc : Nat), Below w.heap.size w wc → BRow wc sa S.1 → S.1.length ≤ sc → S.2 = 0 → RRef.good ⟨a, cap, bs, ty, en, p, pc, ps, sa, sc, S.1⟩ wc) := Lib.hid (fun wc sa sc hbw hsr hsc h0 => ⟨hb.below hbw, h.below hbw, hsr, hbl, hbc, hbn, hl, hSL h0, hsc⟩)
  have HDEF := Lib.hid (fun (wc w1 : World) (g : Nat) (sa : Option Addr) (sc : Nat) (hst : St ⟨a, cap, bs, ty, en, p, pc, ps, sa, sc, S.1⟩ wc g [] w1) (hz : ¬ d.verdef = 0) => refDefs_all _ wc g [] d.verdef d.verdefnum w1 hst HVD.out.1 HVD.out.2.1 hz)
  have HNEED := Lib.hid (fun (wc w1 : World) (g : Nat) (sa : Option Addr) (sc : Nat) (hst : St ⟨a, cap, bs, ty, en, p, pc, ps, sa, sc, S.1⟩ wc g DX.1.1 w1) (hz : ¬ d.verneed = 0) => refNeeds_all _ wc g DX.1.1 d.verneed d.verneednum w1 hst HVD.out.2.2.1 HVD.out.2.2.2 hz)
  simp only [hDX] at HDEF
  simp only [hNX] at HNEED
  have HWL := Lib.hid hWL
  have HWB := Lib.hid hWB
  have hD26 : d.cells[26]? = some (.int .u64 (d.versym : Int)) := rfl
  have hD28 : d.cells[28]? = some (.int .u64 (d.verdef : Int)) := rfl
  have hD29 : d.cells[29]? = some (.int .u64 (d.verdefnum : Int)) := rfl
  have hD30 : d.cells[30]? = some (.int .u64 (d.verneed : Int)) := rfl
  have hD31 : d.cells[31]? = some (.int .u64 (d.verneednum : Int)) := rfl
  have HI : Hid ((Try.prog.info? 29).map (·.size) = some d.cells.size) := Lib.hid (show _ = some 37 by kernel_rfl)
  have hvs : ((d.versym : Int) == 0) = false := by rw [beq_eq_false_iff_ne]; omega
  have hvv : d.versym < 18446744073709551616 := by have := hd; simp only [DT.wf] at this; omega
  have HOXY : Hid (∀ (hl : W.1.length = 2 * m), (∀ i, i < m → wordOk NX.1.1 (wordAt W.1 i) = true) → OX = (words W.1 m, 0)) := Lib.hid (fun hl h => by rw [← hOX]; exact ofR_yes hl h)
  have HOXN : Hid (∀ (hl : W.1.length = 2 * m) i, i < m → wordOk NX.1.1 (wordAt W.1 i) = false → OX = ([], 3)) := Lib.hid (fun hl i hi h => by rw [← hOX]; exact ofR_no hl hi h)
  clear hX hS hW hDX hNX hOX hWL hWB hSL hb hbl hbc hbn h hl hd hv
  have HX1 := Lib.hid hx1
  have HX2 := Lib.hid hx2
  clear hx1 hx2
  obtain ⟨DC, hDC⟩ : ∃ DC, d.cells = DC := ⟨_, rfl⟩
  rw [hDC] at HST HI hD26 hD28 hD29 hD30 hD31 ⊢
  clear hDC
  generalize d.versym = versym at *
  generalize d.verdef = verdef at *
  generalize d.verdefnum = verdefnum at *
  generalize d.verneed = verneed at *
  generalize d.verneednum = verneednum at *
  have F0 := refRead0_facts w ty en p ps.length pc DC
  unfold refRead0 zeroC at F0
  obtain ⟨W0, hW0⟩ : ∃ W0, ((((w.alloc (.cells #[.int .i64 ty, .int .u64 en, .slice p ps.length pc] 26)).alloc (.cells DC 29)).alloc (.cells #[.bool false, .slice none 0 0, .slice none 0 0, .slice none 0 0] 35)).alloc (.cells #[.bool false, .slice none 0 0, .slice none 0 0, .slice none 0 0] 35)) = W0 := ⟨_, rfl⟩
  have BSP := Lib.hid F0.1
  have HGSP := Lib.hid F0.2.2.2.1
  have c26 : ((((w.alloc (.cells #[.int .i64 ty, .int .u64 en, .slice p ps.length pc] 26)).alloc (.cells DC 29)).alloc (.cells #[.bool false, .slice none 0 0, .slice none 0 0, .slice none 0 0] 35)).alloc (.cells #[.bool false, .slice none 0 0, .slice none 0 0, .slice none 0 0] 35)).cell? ⟨w.heap.size + 1, 26, none⟩ = some (.int .u64 (versym : Int)) := by rw [cell_of_row _ _ 26 _ _ _ F0.2.2.2.1]; exact hD26
  have HFX : Hid (∀ wx, Below W0.heap.size W0 wx → (wx.cell? ⟨w.heap.size, 0, none⟩ = some (.int .i64 ty) ∧ wx.cell? ⟨w.heap.size, 1, none⟩ = some (.int .u64 en) ∧ wx.cell? ⟨w.heap.size, 2, none⟩ = some (.slice p ps.length pc)) ∧ (wx.cell? ⟨w.heap.size + 1, 26, none⟩ = some (.int .u64 (versym : Int)) ∧ wx.cell? ⟨w.heap.size + 1, 28, none⟩ = some (.int .u64 (verdef : Int)) ∧ wx.cell? ⟨w.heap.size + 1, 29, none⟩ = some (.int .u64 (verdefnum : Int)) ∧ wx.cell? ⟨w.heap.size + 1, 30, none⟩ = some (.int .u64 (verneed : Int)) ∧ wx.cell? ⟨w.heap.size + 1, 31, none⟩ = some (.int .u64 (verneednum : Int))) ∧
      wx.heap[w.heap.size + 1 + 1]? = some (.cells zeroC 35) ∧ wx.heap[w.heap.size + 1 + 1 + 1]? = some (.cells zeroC 35)) := Lib.hid (fun wx hwx => by
    rw [hW0] at F0
    obtain ⟨-, -, h0, h1, h2, h3⟩ := F0
    have k0 := (hwx.block _ (lt_of_block h0)).trans h0
    have k1 := (hwx.block _ (lt_of_block h1)).trans h1
    exact ⟨⟨by rw [cell_of_row _ _ 0 _ _ _ k0]; rfl, by rw [cell_of_row _ _ 1 _ _ _ k0]; rfl, by rw [cell_of_row _ _ 2 _ _ _ k0]; rfl⟩, ⟨by rw [cell_of_row _ _ 26 _ _ _ k1]; exact hD26, by rw [cell_of_row _ _ 28 _ _ _ k1]; exact hD28, by rw [cell_of_row _ _ 29 _ _ _ k1]; exact hD29, by rw [cell_of_row _ _ 30 _ _ _ k1]; exact hD30, by rw [cell_of_row _ _ 31 _ _ _ k1]; exact hD31⟩, (hwx.block _ (lt_of_block h2)).trans h2, (hwx.block _ (lt_of_block h3)).trans h3⟩)
  have BW0 : Hid (Below w.heap.size w W0) := Lib.hid (by rw [← hW0]; exact F0.1)
  have HW0 := Lib.hid hW0
  clear F0 hW0 hD26 hD28 hD29 hD30 hD31
  unfold headV at *
  obtain ⟨S1, cS⟩ := S
  obtain ⟨W1, cW⟩ := W
  simp only at HST HSW HE1 HE2 HE3 HE4 HE5 HE6 HGOOD HWL HWB HDEF HNEED HOXY HOXN
  generalize hbsl : bs.length = bsl at *
  have HBSL := Lib.hid hbsl
  clear hbsl
  generalize hpsl : ps.length = psl at *
  have HPSL := Lib.hid hpsl
  clear hpsl
  have hm2 : (2 * (m : Int)) = ((2 * m : Nat) : Int) := by omega
  have HM2 := Lib.hid hm2
  have hmn : ¬ (m : Int) < 0 := by omega
  have hm4 : ¬ (4096 : Int) < (m : Int) := by omega
  clear hm2
  go_enter Try.func6, Try.ntmps6
  go_wp2_with (refine wpList_load_row rfl 29 _ rfl (w.heap.size + 1) rfl 29 DC (0, 0) _ HGSP.out Try.underlying29 rfl HI.out ?_)
  refine (HST.out _ BSP.out).mono ?_
  rintro e w1 ⟨sa, sc, he, hsr, hsc, -, hb1⟩
  rw [HW0.out] at hb1
  replace he : e = .returned (.tuple #[.slice sa S1.length sc, .int .i64 (cS : Int)]) := he
  subst he
  have B1 := Lib.hid hb1
  clear hb1 HST HGSP BSP c26 hvs
  by_cases hcS : cS = 0
  · subst hcS
    have HSR := Lib.hid hsr
    simp only at hsc
    clear HE1 hsr
    obtain ⟨⟨h0, h1, h2⟩, ⟨d26, -⟩, -⟩ := HFX.out _ B1.out
    go_wp2_with fail
    rw [HM2.out]
    refine (HSW.out _ (BW0.out.trans (B1.out.mono BW0.out.size))).mono ?_
    rintro e w2 ⟨wa, wc, he, hwr, hwc, -, hb2⟩
    replace he : e = .returned (.tuple #[.slice wa W1.length wc, .int .i64 (cW : Int)]) := he
    subst he
    have B2 := Lib.hid (B1.out.trans (hb2.mono B1.out.size))
    have HSR2 := Lib.hid (HSR.out.below hb2)
    have BW2 := Lib.hid (BW0.out.trans (B2.out.mono BW0.out.size))
    clear hb2 HSW HSR h0 h1 h2 d26 B1
    by_cases hcW : cW = 0
    · subst hcW
      have hwl := HWL.out rfl
      have HWR := Lib.hid hwr
      simp only at hwc
      rw [hwl] at hwc
      rw [hwl]
      have HGD := Lib.hid (HGOOD.out w2 sa sc BW2.out HSR2.out hsc trivial)
      obtain ⟨R, hR⟩ : ∃ R : RRef, (⟨a, cap, bs, ty, en, p, pc, ps, sa, sc, S1⟩ : RRef) = R := ⟨_, rfl⟩
      have HRC : Hid (#[.slice a bsl cap, .int .i64 ty, .int .u64 en, .slice p psl pc, .slice sa S1.length sc, .slice none 0 0] = R.pre.push (.slice none 0 0)) := Lib.hid (by rw [← hR, ← HBSL.out, ← HPSL.out]; rfl)
      rw [hR] at HGD
      have HDEF2 := Lib.hid (fun (w1 : World) (g : Nat) => HDEF.out w2 w1 g sa sc)
      have HNEED2 := Lib.hid (fun (w1 : World) (g : Nat) => HNEED.out w2 w1 g sa sc)
      rw [hR] at HDEF2 HNEED2
      clear HE2 HGOOD hwr HSR2 hR HDEF HNEED hsc
      have W3 : Hid (Below w2.heap.size w2 ((w2.alloc (.cells #[.slice a bsl cap, .int .i64 ty, .int .u64 en, .slice p psl pc, .slice sa S1.length sc, .slice none 0 0] 66)).alloc (.cells #[.bool true, .slice none 0 0, .slice none 0 0, .slice none 0 0] 35))) := Lib.hid (((Below.refl _ _).alloc (Nat.le_refl _) _).alloc (by simp) _)
      obtain ⟨⟨h0, h1, h2⟩, -⟩ := HFX.out _ B2.out
      obtain ⟨-, ⟨-, d28, d29, d30, d31⟩, -⟩ := HFX.out _ (B2.out.trans (W3.out.mono B2.out.size))
      have HST3 : Hid (St R w2 w2.heap.size [] ((w2.alloc (.cells #[.slice a bsl cap, .int .i64 ty, .int .u64 en, .slice p psl pc, .slice sa S1.length sc, .slice none 0 0] 66)).alloc (.cells #[.bool true, .slice none 0 0, .slice none 0 0, .slice none 0 0] 35))) := Lib.hid (⟨HGD.out, W3.out, Nat.le_refl _, ToldOk.nil, none, 0, by
        show _ = some (Obj.cells (R.pre.push (.slice none 0 0)) _)
        rw [← HRC.out]
        exact (heap_alloc_old _ _ (by simp)).trans (heap_alloc_new _ _), OwnI.nil _ _ _ _⟩)
      have HV3 : Hid (VB ((w2.alloc (.cells #[.slice a bsl cap, .int .i64 ty, .int .u64 en, .slice p psl pc, .slice sa S1.length sc, .slice none 0 0] 66)).alloc (.cells #[.bool true, .slice none 0 0, .slice none 0 0, .slice none 0 0] 35)) (w2.heap.size + 1) (.bool true) (.slice none 0 0) (.slice none 0 0) (.slice none 0 0)) := Lib.hid (by
        have := heap_alloc_new (w2.alloc (.cells #[.slice a bsl cap, .int .i64 ty, .int .u64 en, .slice p psl pc, .slice sa S1.length sc, .slice none 0 0] 66)) (.cells #[.bool true, .slice none 0 0, .slice none 0 0, .slice none 0 0] 35)
        unfold VB
        simpa using this)
      by_cases hvd : verdef = 0
      · have HD2 := Lib.hid (HDX0.out hvd)
        subst hvd
        have HST5 : Hid (St R w2 w2.heap.size DX.1.1 ((w2.alloc (.cells #[.slice a bsl cap, .int .i64 ty, .int .u64 en, .slice p psl pc, .slice sa S1.length sc, .slice none 0 0] 66)).alloc (.cells #[.bool true, .slice none 0 0, .slice none 0 0, .slice none 0 0] 35))) := Lib.hid (by rw [HD2.out]; exact HST3.out)
        have hdl : DX.1.2.length = 0 := by rw [HD2.out]; rfl
        have HND := Lib.hid hdl
        have HDS5 : Hid (OwnS ((w2.alloc (.cells #[.slice a bsl cap, .int .i64 ty, .int .u64 en, .slice p psl pc, .slice sa S1.length sc, .slice none 0 0] 66)).alloc (.cells #[.bool true, .slice none 0 0, .slice none 0 0, .slice none 0 0] 35)) w2.heap.size 76 4 (.slice none 0 0) [] ∧ RDRows ((w2.alloc (.cells #[.slice a bsl cap, .int .i64 ty, .int .u64 en, .slice p psl pc, .slice sa S1.length sc, .slice none 0 0] 66)).alloc (.cells #[.bool true, .slice none 0 0, .slice none 0 0, .slice none 0 0] 35)) w2.heap.size DX.1.2 []) := Lib.hid ⟨OwnS.nil _ _ _ _, by rw [HD2.out]; trivial⟩
        have HCD : Hid (DX.2 = 0) := Lib.hid (by rw [HD2.out])
        have B4 := Lib.hid (B2.out.trans (W3.out.mono B2.out.size))
        have HV5 := HV3
        clear HST3 HV3 HD2 hdl HE3 d29 d30 d31
        have B5 := Lib.hid (B2.out.trans (HST5.out.bel.mono B2.out.size))
        obtain ⟨-, ⟨-, -, -, d30, d31⟩, -⟩ := HFX.out _ B5.out
        by_cases hvn : verneed = 0
        · exact absurd hvn HX2.out
        · have hvni : ((verneed : Int) != 0) = true := by rw [bne_iff_ne]; omega
          go_wp2_with fail
          refine (HNEED2.out _ _ HST5.out hvn).mono ?_
          rintro e w6 ⟨na, nn0, nc, he, hok, hb6⟩
          subst he
          have B6 := Lib.hid (B2.out.trans (hb6.mono B2.out.size))
          by_cases hcN : NX.2 = 0
          · obtain ⟨rfl, hst, ⟨nrows, hns, hnr⟩, hkt⟩ := hok hcN
            have HST6 := Lib.hid hst
            have HV6 := Lib.hid (HV5.out.kt hkt)
            have HDS6 : Hid (OwnS w6 w2.heap.size 76 4 (.slice none 0 0) [] ∧ RDRows w6 w2.heap.size DX.1.2 []) := Lib.hid ⟨hkt.ownS HDS5.out.1 (by decide) (by decide), HDS5.out.2.imp (fun v q ho => hkt.ownS ho (by decide) (by decide))⟩
            have HCN := Lib.hid hcN
            have cni : (((NX.2 : Nat) : Int) != 0) = false := by rw [hcN]; rfl
            have v3c := HV6.out.c3
            have v3f := HV6.out.free 3
            have HG7 := Lib.hid (HV6.out.gv ⟨w2.heap.size + 1, 3, none⟩ rfl (.slice na NX.1.2.length nc))
            have HST7 := Lib.hid (HST6.out.of HG7.out (by omega) HV6.out)
            have HV7 := Lib.hid (HV6.out.s3 (.slice na NX.1.2.length nc))
            have HDS7 : Hid (OwnS (w6.setCell ⟨w2.heap.size + 1, 3, none⟩ (.slice na NX.1.2.length nc)) w2.heap.size 76 4 (.slice none 0 0) [] ∧ RDRows (w6.setCell ⟨w2.heap.size + 1, 3, none⟩ (.slice na NX.1.2.length nc)) w2.heap.size DX.1.2 []) := Lib.hid ⟨⟨ownV HDS6.out.1.1 HG7.out HV6.out (by decide), HDS6.out.1.2⟩, HDS6.out.2.imp (fun v q ho => ⟨ownV ho.1 HG7.out HV6.out (by decide), ho.2⟩)⟩
            have HNS7 : Hid (OwnS (w6.setCell ⟨w2.heap.size + 1, 3, none⟩ (.slice na NX.1.2.length nc)) w2.heap.size 80 2 (.slice na NX.1.2.length nc) nrows ∧ NeedRows (w6.setCell ⟨w2.heap.size + 1, 3, none⟩ (.slice na NX.1.2.length nc)) w2.heap.size NX.1.2 nrows) := Lib.hid ⟨⟨ownV hns.1 HG7.out HV6.out (by decide), hns.2⟩, hnr.imp (fun v q ho => ⟨ownV ho.1 HG7.out HV6.out (by decide), ho.2⟩)⟩
            obtain ⟨nn, hnn⟩ : ∃ nn, NX.1.2.length = nn := ⟨_, rfl⟩
            have HNN := Lib.hid hnn
            rw [hnn] at HV7 HDS7 HNS7 HST7
            try rw [hnn]
            clear hok hst hns hnr hkt hb6 HST5 HV5 HDS5 HST6 HDS6 B5 B6 HG7 hnn HE4 HNEED2 HDEF2 d30 d31
            go_wp2_with fail
            generalize (w6.setCell ⟨w2.heap.size + 1, 3, none⟩ (.slice na nn nc)) = w7 at *
            go_loopg [21] m (fun gg i wr => ∃ (k : Nat) (oa : Option Addr) (oc : Nat), k + gg = m ∧ i = .int .i64 (k : Int) ∧ Hid (Kp (w2.heap.size + 1) w7 wr) ∧ Hid (VB wr (w2.heap.size + 1) (.bool true) (.slice oa k oc) (.slice none 0 0) (.slice na nn nc)) ∧ Hid (OwnI wr w7.heap.size 3 .i64 (.slice oa k oc) (toI (words W1 k))) ∧ Hid (∀ i, i < k → wordOk NX.1.1 (wordAt W1 i) = true))
            case atStart => exact ⟨0, none, 0, by omega, rfl, Lib.hid (Kp.refl _ _), HV7, Lib.hid (OwnI.nil _ _ _ _), Lib.hid (fun i hi => absurd hi (Nat.not_lt_zero _))⟩
            case round =>
              obtain ⟨k, oa, oc, hk, rfl, HKP, HVB, HOI, HOK⟩ := hrel
              have HSTr := Lib.hid (HST7.out.of HKP.out (Nat.le_succ _) HV7.out)
              have B8 := Lib.hid (B2.out.trans (HSTr.out.bel.mono B2.out.size))
              cases gk with
              | zero =>
                obtain rfl : k = m := by omega
                have HOX := HOXY.out hwl HOK.out
                have HE := Lib.hid (HE6.out (by simp) (by simp) (by rw [HCD.out]; simp) (by rw [HCN.out]; simp) (by rw [HOX]; simp))
                rw [HOX] at HE
                obtain ⟨-, -, hzv, -⟩ := HFX.out _ B8.out
                obtain ⟨⟨v0, v1, v2, v3⟩, -, f0, f1, f2, f3⟩ := zero_at hzv
                unfold zeroC at hzv
                have FS := Lib.hid (four_stores hzv (.bool true) (.slice oa k oc) (.slice none 0 0) (.slice na nn nc))
                have hr := fun (cs : Array Value) (j : Nat) => cell_setRow_same wr (w.heap.size + 1 + 1) j _ cs _ _ hzv
                have r0 := hr #[.bool true, .slice oa k oc, .slice none 0 0, .slice na nn nc] 0
                have r1 := hr #[.bool true, .slice oa k oc, .slice none 0 0, .slice na nn nc] 1
                have r2 := hr #[.bool true, .slice oa k oc, .slice none 0 0, .slice na nn nc] 2
                have r3 := hr #[.bool true, .slice oa k oc, .slice none 0 0, .slice na nn nc] 3
                simp only [List.getElem?_toArray, List.getElem?_cons_zero, List.getElem?_cons_succ] at r0 r1 r2 r3
                have R0 := Lib.hid r0
                have R1 := Lib.hid r1
                have R2 := Lib.hid r2
                have R3 := Lib.hid r3
                have OF : Hid (KO wr (wr.setRow (w.heap.size + 1 + 1) #[.bool true, .slice oa k oc, .slice none 0 0, .slice na nn nc])) := Lib.hid (KO.grown hzv (setRow_grown _ _ _))
                have BF : Hid (Below w.heap.size w (wr.setRow (w.heap.size + 1 + 1) #[.bool true, .slice oa k oc, .slice none 0 0, .slice na nn nc])) := Lib.hid (below_setRow (BW0.out.trans (B8.out.mono BW0.out.size)) (by omega) _)
                have cw0 := HVB.out.c0
                have cw1 := HVB.out.c1
                have cw2 := HVB.out.c2
                have cw3 := HVB.out.c3
                clear r0 r1 r2 r3 hr hzv HOX hwl
                go_wp2_with fail
                rw [FS.out]
                refine bodyPost_ret (by simp [results, Try.results6, go_sem, R0.out, R1.out, R2.out, R3.out]; try rfl) rfl ?_
                rw [HE.out]
                refine ⟨oa, oc, none, 0, [], na, nc, nrows, by simp only [words_length, HND.out, HNN.out]; rfl, ⟨?_, ?_, ?_, ?_, ?_⟩, BF.out⟩
                · exact ((OF.out.i HOI.out).at).2.1
                · exact ((OF.out.s (by decide) (OwnS.mk (ownV HDS7.out.1.1 HKP.out HV7.out (by decide)) HDS7.out.1.2)).at).2.1
                · exact ((HDS7.out.2.imp (fun v q ho => OF.out.s (by decide) (OwnS.mk (ownV ho.1 HKP.out HV7.out (by decide)) ho.2))).rd)
                · exact ((OF.out.s (by decide) (OwnS.mk (ownV HNS7.out.1.1 HKP.out HV7.out (by decide)) HNS7.out.1.2)).at).2.1
                · exact ((HNS7.out.2.imp (fun v q ho => OF.out.s (by decide) (OwnS.mk (ownV ho.1 HKP.out HV7.out (by decide)) ho.2))).rd)
              | succ g1 =>
                have hkm : k < m := by omega
                have HWLN : Hid ((toI (words W1 k)).length = k) := Lib.hid (by rw [toI_length, words_length])
                have HSZ7 := Lib.hid HKP.out.size
                obtain ⟨M, hM⟩ : ∃ M, wordAt W1 k = M := ⟨_, rfl⟩
                have HM := Lib.hid hM
                have hM16 : M < 65536 := by rw [← hM]; exact numOf_two W1 HWB.out (2 * k)
                have hnw := refNW_any wa wc (2 * m) W1 k wr (HWR.out.below HSTr.out.bel) hwl hwc (by omega) (by omega)
                rw [hM] at hnw
                have HNW := Lib.hid hnw
                clear hnw hM
                obtain ⟨x, hx⟩ : ∃ x, M % 32768 = x := ⟨_, rfl⟩
                have hxi : (M : Int) % 32768 = (x : Int) := by rw [← hx]; omega
                have hx15 : x < 32768 := by omega
                have HHAD := Lib.hid (HSTr.out.had x hx15)
                have hwk : wordOk NX.1.1 M = decide (x ≤ 1 ∨ x ∈ NX.1.1) := by unfold wordOk; rw [hx]
                have HHWL := Lib.hid hwl
                clear hx hwl
                have cw1 := HVB.out.c1
                by_cases hok : x ≤ 1 ∨ x ∈ NX.1.1
                · have HOKM : Hid (wordOk NX.1.1 M = true) := Lib.hid (by rw [hwk]; exact decide_eq_true hok)
                  clear hwk
                  by_cases hx1 : x ≤ 1
                  · have hxgt : ¬ (1 : Int) < (x : Int) := by omega
                    clear hok
                    generalize decide (x ∈ NX.1.1) = dm at *
                    go_wp2_with fail
                    refine HNW.out.mono ?_
                    rintro e w' ⟨rfl, rfl⟩
                    go_wp2_with fail
                    refine HHAD.out.mono ?_
                    rintro e w' ⟨rfl, rfl⟩
                    go_wp2_with (at_builtin; refine wpList_grow rfl (.tmp 133) (.tmp 135) sliceInt rfl w7.heap.size (.slice oa k oc) (toI (words W1 k)) k (M : Int) rfl rfl HWLN.out HOI.out (by unfold maxLen; omega) (by omega) HSZ7.out ?_; intro oa2 oc2 w8 ho8 hg8; have HO8 := Lib.hid ho8; have HG8 := Lib.hid hg8; have HV8 := Lib.hid (HVB.out.grew HOI.out (by decide) _ hg8); have cb8 := HV8.out.c1; have cf8 := HV8.out.free 1; clear ho8 hg8)
                    have HG9 := Lib.hid (HV8.out.gv ⟨w2.heap.size + 1, 1, none⟩ rfl (.slice oa2 (k + 1) oc2))
                    have HK9 := Lib.hid (Kp.trans ((HKP.out.alloc _).grown HG8.out (fun j hj => (World.ownsRow.lt HOI.out j hj).1)) HG9.out)
                    have HV9 := Lib.hid (HV8.out.s1 (.slice oa2 (k + 1) oc2))
                    have HO9 : Hid (OwnI (w8.setCell ⟨w2.heap.size + 1, 1, none⟩ (.slice oa2 (k + 1) oc2)) w7.heap.size 3 .i64 (.slice oa2 (k + 1) oc2) (toI (words W1 (k + 1)))) := Lib.hid (by
                      have h1 := OwnI.setO HO8.out (a := ⟨w2.heap.size + 1, 1, none⟩) (HV8.out.apart HO8.out (by decide)) (.slice oa2 (k + 1) oc2)
                      rw [words_succ, toI_append, HM.out]
                      exact h1)
                    have HOK9 : Hid (∀ i, i < k + 1 → wordOk NX.1.1 (wordAt W1 i) = true) := Lib.hid (fun i hi => by
                      rcases Nat.lt_or_ge i k with h | h
                      · exact HOK.out i h
                      · obtain rfl : i = k := by omega
                        rw [HM.out]
                        exact HOKM.out)
                    clear HV8 HG8 HG9 HO8 cb8 cf8
                    go_roundg g1
                    case measure => omega
                    case rel => exact ⟨k + 1, oa2, oc2, by omega, by go_num, HK9, HV9, HO9, HOK9⟩
                  · have hxgt : (1 : Int) < (x : Int) := by omega
                    have hdm : decide (x ∈ NX.1.1) = true := decide_eq_true (hok.resolve_left hx1)
                    clear hok
                    generalize decide (x ∈ NX.1.1) = dm at *
                    subst hdm
                    go_wp2_with fail
                    refine HNW.out.mono ?_
                    rintro e w' ⟨rfl, rfl⟩
                    go_wp2_with fail
                    refine HHAD.out.mono ?_
                    rintro e w' ⟨rfl, rfl⟩
                    go_wp2_with (at_builtin; refine wpList_grow rfl (.tmp 133) (.tmp 135) sliceInt rfl w7.heap.size (.slice oa k oc) (toI (words W1 k)) k (M : Int) rfl rfl HWLN.out HOI.out (by unfold maxLen; omega) (by omega) HSZ7.out ?_; intro oa2 oc2 w8 ho8 hg8; have HO8 := Lib.hid ho8; have HG8 := Lib.hid hg8; have HV8 := Lib.hid (HVB.out.grew HOI.out (by decide) _ hg8); have cb8 := HV8.out.c1; have cf8 := HV8.out.free 1; clear ho8 hg8)
                    have HG9 := Lib.hid (HV8.out.gv ⟨w2.heap.size + 1, 1, none⟩ rfl (.slice oa2 (k + 1) oc2))
                    have HK9 := Lib.hid (Kp.trans ((HKP.out.alloc _).grown HG8.out (fun j hj => (World.ownsRow.lt HOI.out j hj).1)) HG9.out)
                    have HV9 := Lib.hid (HV8.out.s1 (.slice oa2 (k + 1) oc2))
                    have HO9 : Hid (OwnI (w8.setCell ⟨w2.heap.size + 1, 1, none⟩ (.slice oa2 (k + 1) oc2)) w7.heap.size 3 .i64 (.slice oa2 (k + 1) oc2) (toI (words W1 (k + 1)))) := Lib.hid (by
                      have h1 := OwnI.setO HO8.out (a := ⟨w2.heap.size + 1, 1, none⟩) (HV8.out.apart HO8.out (by decide)) (.slice oa2 (k + 1) oc2)
                      rw [words_succ, toI_append, HM.out]
                      exact h1)
                    have HOK9 : Hid (∀ i, i < k + 1 → wordOk NX.1.1 (wordAt W1 i) = true) := Lib.hid (fun i hi => by
                      rcases Nat.lt_or_ge i k with h | h
                      · exact HOK.out i h
                      · obtain rfl : i = k := by omega
                        rw [HM.out]
                        exact HOKM.out)
                    clear HV8 HG8 HG9 HO8 cb8 cf8
                    go_roundg g1
                    case measure => omega
                    case rel => exact ⟨k + 1, oa2, oc2, by omega, by go_num, HK9, HV9, HO9, HOK9⟩
                · have hwf : wordOk NX.1.1 (wordAt W1 k) = false := by rw [HM.out, hwk]; exact decide_eq_false hok
                  have HOX := HOXN.out HHWL.out k hkm hwf
                  have HE := Lib.hid (HE5.out (by simp) (by simp) (by rw [HCD.out]; simp) (by rw [HCN.out]; simp) (by rw [HOX]; simp))
                  rw [HOX] at HE
                  have hxgt : (1 : Int) < (x : Int) := by omega
                  have hdm : decide (x ∈ NX.1.1) = false := decide_eq_false (fun h => hok (.inr h))
                  clear hok hwk hwf HOX
                  generalize decide (x ∈ NX.1.1) = dm at *
                  subst hdm
                  obtain ⟨-, -, hzv, hzn⟩ := HFX.out _ B8.out
                  obtain ⟨⟨v0, v1, v2, v3⟩, ⟨s0, s1, s2, s3⟩, f0, f1, f2, f3⟩ := zero_at hzv
                  obtain ⟨⟨n0, n1, n2, n3⟩, -, -⟩ := zero_at hzn
                  clear hzv hzn
                  have R0 := Lib.hid v0
                  have R1 := Lib.hid v1
                  have R2 := Lib.hid v2
                  have R3 := Lib.hid v3
                  have BF := Lib.hid (BW0.out.trans (B8.out.mono BW0.out.size))
                  go_wp2_with fail
                  refine HNW.out.mono ?_
                  rintro e w' ⟨rfl, rfl⟩
                  go_wp2_with fail
                  refine HHAD.out.mono ?_
                  rintro e w' ⟨rfl, rfl⟩
                  go_wp2_with fail
                  refine bodyPost_ret (by simp [results, Try.results6, go_sem, R0.out, R1.out, R2.out, R3.out]; try rfl) rfl ?_
                  exact RVersAns.no HE.out BF.out rfl
          · have HE := Lib.hid (HE4.out (by simp) (by simp) (by rw [HCD.out]; simp) hcN)
            have hci : (((NX.2 : Nat) : Int) != 0) = true := by rw [bne_iff_ne]; omega
            clear HE4 HE5 HE6 hcN hok HST5 HV5 HDS5 d30 d31 HDEF2 HNEED2
            obtain ⟨-, -, hzv, hzn⟩ := HFX.out _ B6.out
            obtain ⟨⟨v0, v1, v2, v3⟩, ⟨s0, s1, s2, s3⟩, f0, f1, f2, f3⟩ := zero_at hzv
            obtain ⟨⟨n0, n1, n2, n3⟩, -, -⟩ := zero_at hzn
            clear hzv hzn
            have R0 := Lib.hid v0
            have R1 := Lib.hid v1
            have R2 := Lib.hid v2
            have R3 := Lib.hid v3
            have BF := Lib.hid (BW0.out.trans (B6.out.mono BW0.out.size))
            go_wp2_with fail
            refine bodyPost_ret (by simp [results, Try.results6, go_sem, R0.out, R1.out, R2.out, R3.out]; try rfl) rfl ?_
            exact RVersAns.no HE.out BF.out rfl
      · exact absurd HX1.out hvd
    · have HE := Lib.hid (HE2.out (by simp) hcW)
      have hci : ((cW : Int) != 0) = true := by rw [bne_iff_ne]; omega
      clear HE2 HE3 HE4 HE5 HE6 hcW
      obtain ⟨-, -, hzv, hzn⟩ := HFX.out _ B2.out
      obtain ⟨⟨v0, v1, v2, v3⟩, ⟨s0, s1, s2, s3⟩, f0, f1, f2, f3⟩ := zero_at hzv
      obtain ⟨⟨n0, n1, n2, n3⟩, -, -⟩ := zero_at hzn
      clear hzv hzn
      have R0 := Lib.hid v0
      have R1 := Lib.hid v1
      have R2 := Lib.hid v2
      have R3 := Lib.hid v3
      have BF := Lib.hid (BW0.out.trans (B2.out.mono BW0.out.size))
      go_wp2_with fail
      refine bodyPost_ret (by simp [results, Try.results6, go_sem, R0.out, R1.out, R2.out, R3.out]; try rfl) rfl ?_
      exact RVersAns.no HE.out BF.out rfl
  · have HE := Lib.hid (HE1.out hcS)
    have hci : ((cS : Int) != 0) = true := by rw [bne_iff_ne]; omega
    clear HE1 HE2 HE3 HE4 HE5 HE6 hcS
    obtain ⟨-, -, hzv, hzn⟩ := HFX.out _ B1.out
    obtain ⟨⟨v0, v1, v2, v3⟩, ⟨s0, s1, s2, s3⟩, f0, f1, f2, f3⟩ := zero_at hzv
    obtain ⟨⟨n0, n1, n2, n3⟩, -, -⟩ := zero_at hzn
    clear hzv hzn
    have R0 := Lib.hid v0
    have R1 := Lib.hid v1
    have R2 := Lib.hid v2
    have R3 := Lib.hid v3
    have BF := Lib.hid (BW0.out.trans (B1.out.mono BW0.out.size))
    go_wp2_with fail
    refine bodyPost_ret (by simp [results, Try.results6, go_sem, R0.out, R1.out, R2.out, R3.out]; try rfl) rfl ?_
    exact RVersAns.no HE.out BF.out rfl
end Go.Proofs.Ytaedeaefoeeidaa


