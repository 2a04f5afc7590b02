/- Layer 15: whether an object can be mapped, the segments. -/
import Derived.Test.YtjiifaeehhpkcaaPlaceCk
import Derived.Deep.MidRow
namespace Go.Proofs.Ytjiifaeehhpkcaa
open Go.RowKit
set_option linter.unusedVariables false
set_option linter.unusedSimpArgs false

theorem endF_lt {p : PT} (h : p.low) : endF p < 18446744073709551616 := Nat.lt_of_le_of_lt (end_low h) (by decide)
theorem walkF_step (n e : Nat) (p : PT) (r : List PT) : walkF n e (p :: r) = if segF n e p ≠ 0 then segF n e p else walkF n (nextE e p) r := rfl

set_option maxRecDepth 100000 in
set_option maxHeartbeats 32000000 in
theorem check_good (C : Array Value) (x : POb) (w : World) (h : PCells w C x) (h2 : x.ty = 2 ∨ x.ty = 3) (hne : pagedF (kindF 1 x.ps) ≠ []) :
    Calls Try.prog 19 #[.agg C] w fun e w' => e = .returned (errV (placeF x.ty x.bs.length x.ps : Int)) ∧ Below w.heap.size w w' := by
  have h54 := h.size
  have hone := h.one
  have HI := Lib.hid h.info
  have hc0 := h.c0
  have B1 : Hid (Below w.heap.size w (w.alloc (.cells C 39))) := Lib.hid ((Below.refl _ _).alloc (Nat.le_refl _) _)
  have HX : Hid ((w.alloc (.cells C 39)).heap[w.heap.size]? = some (.cells C 39)) := Lib.hid (heap_alloc_new _ _)
  have HXF : Hid (∀ wx, Below (w.alloc (.cells C 39)).heap.size (w.alloc (.cells C 39)) wx → wx.heap[w.heap.size]? = some (.cells C 39)) := Lib.hid (fun wx hx => (hx.block _ (lt_of_block HX.out)).trans HX.out)
  have HSE := Lib.hid (segments_any C x _ (h.below B1.out))
  have HWF : Hid (∀ p ∈ kindF 1 x.ps, p.wf) := Lib.hid (fun p hp => h.wf p (mem_kind hp).1)
  have HLN : Hid ((kindF 1 x.ps).length * 48 ≤ 140737488351232) := Lib.hid (by have h1 : (kindF 1 x.ps).length ≤ x.ps.length := List.length_filter_le _ _; have := h.pl; omega)
  have HNE := Lib.hid hne
  have HR0 : Hid (placeF x.ty x.bs.length x.ps = if walkF x.bs.length 0 (kindF 1 x.ps) ≠ 0 then walkF x.bs.length 0 (kindF 1 x.ps) else restF x.ty x.ps) := Lib.hid (placeF_rest h2 hne)
  obtain ⟨R, hR⟩ : ∃ R, placeF x.ty x.bs.length x.ps = R := ⟨_, rfl⟩
  rw [hR] at HR0 ⊢
  have HTY := Lib.hid h2
  -- the calls behind
  have HSEG : Hid (∀ (en : Nat) (p : PT) (wx : World), p.wf → en < 18446744073709551616 → Below (w.alloc (.cells C 39)).heap.size (w.alloc (.cells C 39)) wx → Calls Try.prog 37 #[.agg C, .int .u64 (en : Int), p.v] wx fun e w' => e = .returned (errV (segF x.bs.length en p : Int)) ∧ Below wx.heap.size wx w') := Lib.hid (fun en p wx hp hen hx => segment_any C x en p wx (h.below (bstep B1.out hx)) hp hen)
  have HREST : Hid (∀ (wx : World), walkF x.bs.length 0 (kindF 1 x.ps) = 0 → Below (w.alloc (.cells C 39)).heap.size (w.alloc (.cells C 39)) wx → PCells wx C x) := Lib.hid (fun wx _ hx => h.below (bstep B1.out hx))
  have HBW : Hid (∀ wx, Below (w.alloc (.cells C 39)).heap.size (w.alloc (.cells C 39)) wx → Below w.heap.size w wx) := Lib.hid (fun wx hx => bstep B1.out hx)
  clear h hne hR B1
  generalize hkl : kindF 1 x.ps = l at *
  have HKL := Lib.hid hkl
  obtain ⟨W, hW⟩ : ∃ W, walkF x.bs.length 0 l = W := ⟨_, rfl⟩
  rw [hW] at HR0
  have HW : Hid (walkF x.bs.length 0 (l.drop 0) = W) := Lib.hid hW
  have HWZ := Lib.hid hW
  have HZN := Lib.hid (rfl : x.bs.length = x.bs.length)
  clear hW hkl
  generalize hBN : x.bs.length = BN at *
  clear hBN HZN
  generalize hty : x.ty = ty at *
  have HTE := Lib.hid hty
  clear hty
  go_enter Try.func19, Try.ntmps19
  go_wp2_with (refine wpList_load_row rfl 39 _ rfl w.heap.size rfl 39 C (0, 0) _ HX.out Try.underlying39 rfl HI.out ?_)
  generalize w.alloc (.cells C 39) = w1 at *
  generalize hxb : w.heap.size = xb at *
  have HXB := Lib.hid hxb
  clear hxb
  refine HSE.out.mono ?_
  rintro e w2 ⟨ad, c, rfl, ho, hb⟩
  have hx2 := HXF.out _ hb
  have c0 := (cell_of_row _ _ 0 _ _ _ hx2).trans hc0
  have HRL := Lib.hid (OwnP.row ho HWF.out).2.1
  have B2 := Lib.hid hb
  have HPG := Lib.hid (paged_any ad l.length c l w2 HRL.out rfl HLN.out)
  clear ho hb HSE HX hx2
  have HPN : Hid (0 < (pagedF l).length) := Lib.hid (List.length_pos_iff.2 HNE.out)
  have HSPL : Hid (pagedF l = pagedF l) := Lib.hid rfl
  obtain ⟨pn, hpn⟩ : ∃ pn, (pagedF l).length = pn := ⟨_, rfl⟩
  have HPG : Hid (Calls Try.prog 23 #[.slice ad l.length c] w2 fun e w' => ∃ ad2 c2, e = .returned (.slice ad2 pn c2) ∧ Below w2.heap.size w2 w') := Lib.hid (HPG.out.mono (by rintro e w' ⟨ad2, c2, h1, h2, h3⟩; exact ⟨ad2, c2, by rw [h1, hpn], h3⟩))
  rw [hpn] at HPN
  clear hpn
  obtain ⟨ln, hln⟩ : ∃ ln, l.length = ln := ⟨_, rfl⟩
  rw [hln] at HPG HLN ⊢
  have HLE := Lib.hid hln
  clear hln
  have m0 : ((pn : Int) == 0) = false := by have := HPN.out; rw [beq_eq_false_iff_ne]; omega
  rcases h2 with rfl | rfl
  all_goals (
    go_wp2_with fail
    refine HPG.out.mono ?_
    rintro e w3 ⟨ad3, c3, rfl, hb⟩
    have B3 := Lib.hid (bstep B2.out hb)
    have HR3 := Lib.hid (HRL.out.below hb)
    clear hb HPG c0 HRL
    go_wp2_with fail
    clear m0
    go_loopg [4, 34] ln (fun g ev iv wr => ∃ (k en : Nat), k + g = ln ∧ iv = .int .i64 (k : Int) ∧ ev = .int .u64 (en : Int) ∧ Hid (en < 18446744073709551616) ∧ Hid (walkF BN en (l.drop k) = W) ∧ Hid (Below w1.heap.size w1 wr) ∧ Hid (Below w3.heap.size w3 wr))
    case atStart => exact ⟨0, 0, by omega, rfl, rfl, Lib.hid (by decide), HW, B3, Lib.hid (Below.refl _ _)⟩
    case round =>
      obtain ⟨k, en, hk, rfl, rfl, HEN, HG, HB, HB3⟩ := hrel
      clear HW
      have hln : ln * 48 ≤ 140737488351232 := HLN.out
      cases gk with
      | zero =>
        have hke : k = ln := by omega
        have HW0 : Hid (W = 0) := Lib.hid (by rw [← HG.out, List.drop_of_length_le (by rw [HLE.out, hke]; exact Nat.le_refl _)]; rfl)
        clear hk
        subst hke
        have hcell := HREST.out wr (HWZ.out.trans HW0.out) HB.out
        have HLOW : Hid (∀ p ∈ l, p.low) := Lib.hid (fun p hp => walkF_low (HWZ.out.trans HW0.out) p hp)
        have hap : beginF (pagedF l) ≤ endF (lastP (pagedF l)) := by
          have := apart_span (walkF_apart (HWZ.out.trans HW0.out)) (fun p hp => (mem_paged hp).2) HNE.out
          omega
        have HSP := span_any C x wr hcell (by rw [HKL.out]; exact HNE.out) (by rw [HKL.out]; exact HLOW.out) (by rw [HKL.out]; exact hap)
        rw [HKL.out] at HSP
        have HSP := Lib.hid HSP
        have HR1 : Hid (R = restF x.ty x.ps) := Lib.hid (by rw [HTE.out]; exact HR0.out.trans (if_neg (by rw [HW0.out]; decide)))
        obtain ⟨q, hq⟩ : ∃ q, beginF (pagedF l) = q := ⟨_, rfl⟩
        obtain ⟨sn, hsn⟩ : ∃ sn, spanN (pagedF l) = sn := ⟨_, rfl⟩
        rw [hq, hsn] at HSP
        have HQ : Hid (beginF (pagedF (kindF 1 x.ps)) = q) := Lib.hid (by rw [HKL.out]; exact hq)
        have HXr := Lib.hid (HXF.out _ HB.out)
        clear hcell hap hq hsn HR0 HG HSEG HEN
        go_wp2_with (refine wpList_load_row rfl 39 _ rfl xb rfl 39 C (0, 0) _ HXr.out Try.underlying39 rfl HI.out ?_)
        refine HSP.out.mono ?_
        rintro e w4 ⟨rfl, hb4⟩
        have B4 := Lib.hid (bstep HB.out hb4)
        have B43 := Lib.hid (bstep HB3.out hb4)
        have hx4 := HXF.out _ B4.out
        have HX4 := Lib.hid hx4
        have c0 := (cell_of_row _ _ 0 _ _ _ hx4).trans hc0
        clear hb4 hx4 HSP HXr
        have HPR := Lib.hid (progs_any C x 1685382482 w4 (HREST.out w4 (HWZ.out.trans HW0.out) B4.out) (by decide))
        by_cases hqq : x.ty = 2 ∧ q < 4096
        · first
            | exact absurd (HTE.out.symm.trans hqq.1) (by decide)
            | (have hq2 := hqq.2
               have HR4 : Hid (R = 4) := Lib.hid (by rw [HR1.out]; unfold restF; rw [HQ.out, if_pos hqq])
               clear HR1 hqq HPR
               go_wp2_with fail
               go_ret
               exact ⟨by rw [HR4.out]; rfl, by have := HBW.out _ B4.out; rwa [HXB.out]⟩)
        have HR2 : Hid (R = if 1 < (kindF 1685382482 x.ps).length ∨ 1 < (kindF 7 x.ps).length then 3 else if (kindF 1685382482 x.ps).all (heldF (pagedF l)) then 0 else 3) := Lib.hid (by rw [HR1.out]; unfold restF; rw [HQ.out, if_neg hqq, HKL.out])
        first
          | (have hq3 : ¬ q < 4096 := fun h2 => hqq ⟨HTE.out, h2⟩)
          | skip
        clear hqq HR1
        go_wp2_with (refine wpList_load_row rfl 39 _ rfl xb rfl 39 C (0, 0) _ HX4.out Try.underlying39 rfl HI.out ?_)
        refine HPR.out.mono ?_
        rintro e w5 ⟨ad5, c5, rfl, ho5, hb5⟩
        have HSW : Hid (∀ p ∈ kindF 1685382482 x.ps, p.wf) := Lib.hid (fun p hp => (HREST.out w4 (HWZ.out.trans HW0.out) B4.out).wf p (mem_kind hp).1)
        have HSR := Lib.hid (OwnP.row ho5 HSW.out).2.1
        have B5 := Lib.hid (bstep B4.out hb5)
        have B53 := Lib.hid (bstep B43.out hb5)
        have HTL := Lib.hid (progs_any C x 7 w5 (HREST.out w5 (HWZ.out.trans HW0.out) B5.out) (by decide))
        have HSLN : Hid ((kindF 1685382482 x.ps).length * 48 ≤ 140737488351232) := Lib.hid (by
          have h1 : (kindF 1685382482 x.ps).length ≤ x.ps.length := List.length_filter_le _ _
          have := (HREST.out w4 (HWZ.out.trans HW0.out) B4.out).pl
          omega)
        have HO5 := Lib.hid (HXF.out _ B5.out)
        clear ho5 hb5 HPR HX4 c0
        generalize kindF 1685382482 x.ps = sl at *
        generalize kindF 7 x.ps = tl at *
        obtain ⟨SN, hSN⟩ : ∃ SN, sl.length = SN := ⟨_, rfl⟩
        obtain ⟨TN, hTN⟩ : ∃ TN, tl.length = TN := ⟨_, rfl⟩
        rw [hSN] at HSLN HR2 ⊢
        rw [hTN] at HR2
        have HSE := Lib.hid hSN
        by_cases hs1 : 1 < SN
        · have HR3' : Hid (R = 3) := Lib.hid (by rw [HR2.out, if_pos (.inl hs1)])
          clear HTL HR2
          go_wp2_with fail
          go_ret
          exact ⟨by rw [HR3'.out]; rfl, by have := HBW.out _ B5.out; rwa [HXB.out]⟩
        have HRG : Hid (w5.rangeAt xb 0 C.toList) := Lib.hid (fun j v hj => by
          rw [Nat.zero_add, cell_of_row _ _ j _ _ _ HO5.out]
          simpa using hj)
        have HI2 : Hid ((Try.prog.info? 39).map (·.size) = some C.toList.length) := Lib.hid (by rw [HI.out]; simp)
        have HTN : Hid (tl.length = TN) := Lib.hid hTN
        have hd1 : decide ((1 : Int) < (SN : Int)) = false := decide_eq_false (by omega)
        clear hSN hTN
        go_wp2_with (refine BigFrame.wpList_want rfl fun _ hK => wp_load_mid 39 _ rfl xb 0 (by rfl) C.toList _ HRG.out Try.underlying39 rfl HI2.out (hK _ _ ?_); rw [Array.toArray_toList])
        refine HTL.out.mono ?_
        rintro e w6 ⟨ad6, c6, rfl, ho6, hb6⟩
        rw [HTN.out]
        have B6 := Lib.hid (bstep B5.out hb6)
        have B63 := Lib.hid (bstep B53.out hb6)
        have HS6 := Lib.hid (HSR.out.below hb6)
        clear ho6 hb6 HTL HRG HI2 HO5 HSR
        by_cases ht1 : 1 < TN
        · have HR3' : Hid (R = 3) := Lib.hid (by rw [HR2.out, if_pos (.inr ht1)])
          clear HR2
          go_wp2_with fail
          go_ret
          exact ⟨by rw [HR3'.out]; rfl, by have := HBW.out _ B6.out; rwa [HXB.out]⟩
        obtain ⟨AL, hAL⟩ : ∃ AL, sl.all (heldF (pagedF l)) = AL := ⟨_, rfl⟩
        have HR5 : Hid (R = if AL = true then 0 else 3) := Lib.hid (by rw [HR2.out, if_neg (by omega), hAL])
        have HAL : Hid ((sl.drop 0).all (heldF (pagedF l)) = AL) := Lib.hid hAL
        have HS1 := Lib.hid hs1
        have HR6 := Lib.hid (HR3.out.below B63.out)
        have HLD : Hid (ad = ad) := Lib.hid rfl
        have HBF : Hid (∀ wx, Below w6.heap.size w6 wx → Below w.heap.size w wx) := Lib.hid (fun wx hx => by have := HBW.out _ (bstep B6.out hx); rwa [HXB.out])
        have hs2 : SN ≤ 1 := by omega
        clear HR2 hAL
        try clear hq3
        go_wp2_with fail
        go_loopg [82] SN (fun g iv wx => ∃ (j : Nat), j + g = SN ∧ iv = .int .i64 (j : Int) ∧ Hid ((sl.drop j).all (heldF (pagedF l)) = AL) ∧ Hid (Below w6.heap.size w6 wx))
        case atStart => exact ⟨0, by omega, rfl, HAL, Lib.hid (Below.refl _ _)⟩
        case round =>
          obtain ⟨j, hj, rfl, HAJ, HBJ⟩ := hrel
          clear HAL
          cases gk with
          | zero =>
            have hje : j = SN := by omega
            have HALT : Hid (AL = true) := Lib.hid (by rw [← HAJ.out, List.drop_of_length_le (by rw [HSE.out, hje]; exact Nat.le_refl _)]; rfl)
            clear hj
            subst hje
            have HRZ : Hid (R = 0) := Lib.hid (by rw [HR5.out, if_pos HALT.out])
            clear HR5
            go_wp2_with fail
            go_ret
            exact ⟨by rw [HRZ.out]; rfl, HBF.out _ HBJ.out⟩
          | succ g =>
            have hjn : j < SN := by omega
            have hjl : j < sl.length := by rw [HSE.out]; exact hjn
            obtain ⟨hwf, b, o, rfl, hb, hc⟩ := (HS6.out.below HBJ.out) j hjl
            have HDR : Hid (sl.drop j = sl[j] :: sl.drop (j + 1)) := Lib.hid (List.drop_eq_getElem_cons hjl)
            generalize sl[j] = p at *
            obtain ⟨H, hH⟩ : ∃ H, heldF (pagedF l) p = H := ⟨_, rfl⟩
            obtain ⟨a0, a1, a2, a3, a4, a5, a6⟩ := p
            have c0 := hc 0 (by omega)
            have c1 := hc 1 (by omega)
            have c2 := hc 2 (by omega)
            have c3 := hc 3 (by omega)
            have c4 := hc 4 (by omega)
            have c5 := hc 5 (by omega)
            have c6 := hc 6 (by omega)
            simp only [PT.cells, List.getElem?_cons_zero, List.getElem?_cons_succ, Nat.add_zero] at c0 c1 c2 c3 c4 c5 c6
            have BA : Hid (Below w6.heap.size w6 (wr.alloc (.cells #[.int .u32 (a0 : Int), .int .u32 (a1 : Int), .int .u64 (a2 : Int), .int .u64 (a3 : Int), .int .u64 (a4 : Int), .int .u64 (a5 : Int), .int .u64 (a6 : Int)] 60))) := Lib.hid (HBJ.out.alloc HBJ.out.size _)
            have HHE := held_any ⟨a0, a1, a2, a3, a4, a5, a6⟩ ad k c l _ (HR6.out.below BA.out) HLE.out hln HLOW.out hwf
            rw [hH] at HHE
            unfold PT.v PT.cells at HHE
            simp only at HHE
            have HHE := Lib.hid HHE
            have HHH := Lib.hid hH
            have HJ := Lib.hid hj
            clear hc hjl hwf hj hH
            go_wp2_with fail
            generalize wr.alloc (.cells #[.int .u32 (a0 : Int), .int .u32 (a1 : Int), .int .u64 (a2 : Int), .int .u64 (a3 : Int), .int .u64 (a4 : Int), .int .u64 (a5 : Int), .int .u64 (a6 : Int)] 60) = wA at *
            refine HHE.out.mono ?_
            rintro e w7 ⟨rfl, hb7⟩
            have B7 := Lib.hid (bstep BA.out hb7)
            clear hb7 HHE c0 c1 c2 c3 c4 c5 c6 hb
            cases H with
            | true =>
              have HAJ2 : Hid ((sl.drop (j + 1)).all (heldF (pagedF l)) = AL) := Lib.hid (by
                have := HAJ.out
                rw [HDR.out, List.all_cons, HHH.out, Bool.true_and] at this
                exact this)
              clear HAJ HDR HHH
              go_wp2_with fail
              go_roundg g
              case measure => omega
              case rel => exact ⟨j + 1, by have := HJ.out; omega, by go_num, HAJ2, B7⟩
            | false =>
              have HRT : Hid (R = 3) := Lib.hid (by
                have := HAJ.out
                rw [HDR.out, List.all_cons, HHH.out, Bool.false_and] at this
                rw [HR5.out, if_neg (by rw [← this]; decide)])
              clear HAJ HDR HHH HR5
              go_wp2_with fail
              go_ret
              exact ⟨by rw [HRT.out]; rfl, HBF.out _ B7.out⟩
      | succ g =>
        have hkn : k < ln := by omega
        have hkl : k < l.length := by rw [HLE.out]; exact hkn
        obtain ⟨hwf, b, o, rfl, hb, hc⟩ := (HR3.out.below HB3.out) k hkl
        have HDR : Hid (l.drop k = l[k] :: l.drop (k + 1)) := Lib.hid (List.drop_eq_getElem_cons hkl)
        generalize l[k] = p at *
        have HGS : Hid (W = if segF BN en p ≠ 0 then segF BN en p else walkF BN (nextE en p) (l.drop (k + 1))) := Lib.hid (by rw [← HG.out, HDR.out]; rfl)
        obtain ⟨S, hS⟩ : ∃ S, segF BN en p = S := ⟨_, rfl⟩
        have BA : Hid (Below w1.heap.size w1 (wr.alloc (.cells p.cells.toArray 60))) := Lib.hid (HB.out.alloc HB.out.size _)
        have BA3 : Hid (Below w3.heap.size w3 (wr.alloc (.cells p.cells.toArray 60))) := Lib.hid (HB3.out.alloc HB3.out.size _)
        have HSG := HSEG.out en p _ hwf HEN.out BA.out
        have HPA : Hid (S = 0 → ∀ wx, Calls Try.prog 38 #[p.v] wx fun e w' => e = .returned (.tuple #[.int .u64 (downF p.vaddr : Int), .int .u64 (endF p : Int)]) ∧ Below wx.heap.size wx w') := Lib.hid (fun h0 wx => pages_any p wx (segF_zero (hS.trans h0)).2.2.2.1)
        have HEL : Hid (S = 0 → endF p < 18446744073709551616) := Lib.hid (fun h0 => endF_lt (segF_zero (hS.trans h0)).2.2.2.1)
        have HNX : Hid (nextE en p = if 0 < p.memsz then endF p else en) := Lib.hid rfl
        rw [hS] at HSG HGS
        have HAX := Lib.hid (HXF.out _ BA.out)
        have HBX := Lib.hid (heap_alloc_new wr (.cells p.cells.toArray 60))
        obtain ⟨EF, hEF⟩ : ∃ EF, endF p = EF := ⟨_, rfl⟩
        obtain ⟨DF, hDF⟩ : ∃ DF, downF p.vaddr = DF := ⟨_, rfl⟩
        rw [hEF] at HPA HEL HNX
        rw [hDF] at HPA
        generalize nextE en p = NE at *
        obtain ⟨a0, a1, a2, a3, a4, a5, a6⟩ := p
        have c0 := hc 0 (by omega)
        have c1 := hc 1 (by omega)
        have c2 := hc 2 (by omega)
        have c3 := hc 3 (by omega)
        have c4 := hc 4 (by omega)
        have c5 := hc 5 (by omega)
        have c6 := hc 6 (by omega)
        unfold PT.v at HPA HSG
        simp only [PT.cells, List.getElem?_cons_zero, List.getElem?_cons_succ, Nat.add_zero] at c0 c1 c2 c3 c4 c5 c6 HPA HSG HAX HBX BA BA3 HNX
        have HSG := Lib.hid HSG
        have HKK := Lib.hid hk
        clear hc hkl hwf hk hS hEF hDF HG HDR
        go_wp2_with (refine wpList_load_row rfl 39 _ rfl xb rfl 39 C (0, 0) _ HAX.out Try.underlying39 rfl HI.out ?_)
        generalize wr.alloc (.cells #[.int .u32 (a0 : Int), .int .u32 (a1 : Int), .int .u64 (a2 : Int), .int .u64 (a3 : Int), .int .u64 (a4 : Int), .int .u64 (a5 : Int), .int .u64 (a6 : Int)] 60) = wA at *
        refine HSG.out.mono ?_
        rintro e w7 ⟨rfl, hb7⟩
        have B7 := Lib.hid (bstep BA.out hb7)
        have B73 := Lib.hid (bstep BA3.out hb7)
        have hbx := (hb7.block _ (lt_of_block HBX.out)).trans HBX.out
        generalize wr.heap.size = yb at *
        have d0 : w7.cell? ⟨yb, 0, none⟩ = some (.int .u32 (a0 : Int)) := by rw [cell_of_row _ _ 0 _ _ _ hbx]; rfl
        have d1 : w7.cell? ⟨yb, 1, none⟩ = some (.int .u32 (a1 : Int)) := by rw [cell_of_row _ _ 1 _ _ _ hbx]; rfl
        have d2 : w7.cell? ⟨yb, 2, none⟩ = some (.int .u64 (a2 : Int)) := by rw [cell_of_row _ _ 2 _ _ _ hbx]; rfl
        have d3 : w7.cell? ⟨yb, 3, none⟩ = some (.int .u64 (a3 : Int)) := by rw [cell_of_row _ _ 3 _ _ _ hbx]; rfl
        have d4 : w7.cell? ⟨yb, 4, none⟩ = some (.int .u64 (a4 : Int)) := by rw [cell_of_row _ _ 4 _ _ _ hbx]; rfl
        have d5 : w7.cell? ⟨yb, 5, none⟩ = some (.int .u64 (a5 : Int)) := by rw [cell_of_row _ _ 5 _ _ _ hbx]; rfl
        have d6 : w7.cell? ⟨yb, 6, none⟩ = some (.int .u64 (a6 : Int)) := by rw [cell_of_row _ _ 6 _ _ _ hbx]; rfl
        clear hb7 hbx HSG HAX HBX c0 c1 c2 c3 c4 c5 c6 hb
        by_cases hS0 : S = 0
        · have HPAS := Lib.hid (HPA.out hS0)
          have HELS := Lib.hid (HEL.out hS0)
          have HGN : Hid (walkF BN NE (l.drop (k + 1)) = W) := Lib.hid (by have := HGS.out; rw [if_neg (by omega)] at this; exact this.symm)
          subst hS0
          have he0 : errV ((0 : Nat) : Int) = .nilIface := rfl
          rw [he0]
          clear HPA HEL HGS he0
          by_cases hm : 0 < a5
          · have HNE2 : Hid (NE = EF) := Lib.hid (by rw [HNX.out, if_pos hm])
            clear HNX
            go_wp2_with fail
            refine (HPAS.out w7).mono ?_
            rintro e w8 ⟨rfl, hb8⟩
            have B8 := Lib.hid (bstep B7.out hb8)
            have B83 := Lib.hid (bstep B73.out hb8)
            clear hb8 HPAS d0 d1 d2 d3 d4 d5 d6
            go_wp2_with fail
            go_roundg g
            case measure => omega
            case rel => exact ⟨k + 1, EF, by have := HKK.out; omega, by go_num, rfl, HELS, Lib.hid (by rw [← HNE2.out]; exact HGN.out), B8, B83⟩
          · have HNE2 : Hid (NE = en) := Lib.hid (by rw [HNX.out, if_neg hm])
            clear HNX
            go_wp2_with fail
            go_roundg g
            case measure => omega
            case rel => exact ⟨k + 1, en, by have := HKK.out; omega, by go_num, rfl, HEN, Lib.hid (by rw [← HNE2.out]; exact HGN.out), B7, B73⟩
        · have HWS : Hid (W = S) := Lib.hid (by have := HGS.out; rw [if_pos hS0] at this; exact this)
          have HRS : Hid (R = S) := Lib.hid (by rw [HR0.out, HWS.out, if_pos hS0])
          have he := errV_pos' hS0
          rw [he]
          clear HPA HEL HGS HR0 HWS d0 d1 d2 d3 d4 d5 d6
          go_wp2_with fail
          go_ret
          exact ⟨by rw [HRS.out, he]; rfl, by have := HBW.out _ B7.out; rwa [HXB.out]⟩)
end Go.Proofs.Ytjiifaeehhpkcaa
