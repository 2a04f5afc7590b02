/- Layer 15: the document's answer, whether an object can be mapped (printed by wip/tools/asm4.py). -/
import Derived.Test.YtjiifaeehhpkcaaPlaceRcF
namespace Go.Proofs.Ytjiifaeehhpkcaa
open Go.RowKit
set_option linter.unusedVariables false
set_option linter.unusedSimpArgs false

set_option maxRecDepth 100000 in
set_option maxHeartbeats 64000000 in
theorem rcheck_2z (C : Array Value) (x : POb) (w : World) (h : PCells w C x) (hty0 : x.ty = 2) (hne0 : pagedF (kindF 1 x.ps) ≠ []) (hw0 : walkF x.bs.length 0 (kindF 1 x.ps) = 0) :
    Calls Try.prog 10 #[.agg C] w fun e w' => e = .returned (.int .i64 (placeF x.ty x.bs.length x.ps : Int)) ∧ Below w.heap.size w w' := by
  have h54 := h.size
  have hone := h.one
  have hc0 := h.c0
  obtain ⟨pa, pcap, hc2, hrow⟩ := h.head
  obtain ⟨ba, bcap, hc53, -, -⟩ := h.bytes
  have HI := Lib.hid h.info
  have B1 : Hid (Below w.heap.size w (w.alloc (.cells C 39))) := Lib.hid ((Below.refl _ _).alloc (Nat.le_refl _) _)
  have HX : Hid ((w.alloc (.cells C 39)).heap[w.heap.size]? = some (.cells C 39)) := Lib.hid (heap_alloc_new _ _)
  have HXF : Hid (∀ wx, Below (w.alloc (.cells C 39)).heap.size (w.alloc (.cells C 39)) wx → wx.heap[w.heap.size]? = some (.cells C 39)) := Lib.hid (fun wx hx => (hx.block _ (lt_of_block HX.out)).trans HX.out)
  have HCF : Hid (∀ wx, Below (w.alloc (.cells C 39)).heap.size (w.alloc (.cells C 39)) wx → wx.cell? ⟨w.heap.size, 0, none⟩ = some (.int .i64 x.ty) ∧ wx.cell? ⟨w.heap.size, 2, none⟩ = some (.slice pa x.ps.length pcap) ∧ wx.cell? ⟨w.heap.size, 53, none⟩ = some (.slice ba x.bs.length bcap)) := Lib.hid (fun wx hx =>
    ⟨(cell_of_row _ _ 0 _ _ _ (HXF.out wx hx)).trans hc0, (cell_of_row _ _ 2 _ _ _ (HXF.out wx hx)).trans hc2, (cell_of_row _ _ 53 _ _ _ (HXF.out wx hx)).trans hc53⟩)
  have HSE := Lib.hid (rsegments_any C x _ (h.below B1.out))
  have HWF : Hid (∀ p ∈ kindF 1 x.ps, p.wf) := Lib.hid (fun p hp => h.wf p (mem_kind hp).1)
  have HLN : Hid ((kindF 1 x.ps).length * 48 ≤ 140737488351232) := Lib.hid (by have h1 : (kindF 1 x.ps).length ≤ x.ps.length := List.length_filter_le _ _; have := h.pl; omega)
  have HPLN := Lib.hid h.pl
  have HBLN := Lib.hid h.bl
  have HBW : Hid (∀ wx, Below (w.alloc (.cells C 39)).heap.size (w.alloc (.cells C 39)) wx → Below w.heap.size w wx) := Lib.hid (fun wx hx => bstep B1.out hx)
  have HPR : Hid (PRow (w.alloc (.cells C 39)) pa x.ps) := Lib.hid (hrow.below B1.out)
  have HNE := Lib.hid hne0
  have HWN := Lib.hid hw0
  obtain ⟨R, hR⟩ : ∃ R, placeF x.ty x.bs.length x.ps = R := ⟨_, rfl⟩
  rw [hR]
  have HRR := Lib.hid hR
  clear h B1 hR hrow hc0 hc2 hc53 hne0 hw0
  have HTY := Lib.hid hty0
  clear hty0
  generalize hkl : kindF 1 x.ps = l at *
  have HKL := Lib.hid hkl
  clear hkl
  obtain ⟨ty, hty⟩ : ∃ ty, x.ty = ty := ⟨_, rfl⟩
  obtain ⟨BN, hBN⟩ : ∃ BN, x.bs.length = BN := ⟨_, rfl⟩
  obtain ⟨ps, hps⟩ : ∃ ps, x.ps = ps := ⟨_, rfl⟩
  rw [hty, hBN, hps] at HRR
  rw [hty] at HTY
  rw [hBN] at HWN
  rw [hps] at HKL HPR HPLN
  rw [hBN] at HBLN
  rw [hty, hBN, hps] at HCF
  clear hty hBN hps
  obtain ⟨pn, hpn⟩ : ∃ pn, ps.length = pn := ⟨_, rfl⟩
  rw [hpn] at HCF HPLN
  have HPN := Lib.hid hpn
  clear hpn
  go_enter Try.func10, Try.ntmps10
  go_wp2_with (refine wpList_load_row rfl 39 _ rfl w.heap.size rfl 39 C (0, 0) _ HX.out Try.underlying39 rfl HI.out ?_)
  generalize w.alloc (.cells C 39) = w1 at *
  generalize hxb : w.heap.size = xb at *
  have HXB := Lib.hid hxb
  clear hxb
  refine HSE.out.mono ?_
  rintro e w2 ⟨ad, c, rfl, ho, hb⟩
  have HRL := Lib.hid (OwnP.row ho HWF.out).2.1
  have B2 := Lib.hid hb
  clear ho hb HSE HX
  obtain ⟨ln, hln⟩ : ∃ ln, l.length = ln := ⟨_, rfl⟩
  rw [hln] at HLN ⊢
  have HLE := Lib.hid hln
  have hlnb : ln * 48 ≤ 140737488351232 := HLN.out
  clear hln
  go_wp2_with fail
  go_loopg [4, 5] ln (fun g pv iv wr => ∃ (i : Nat) (b : Bool), i + g = ln ∧ iv = .int .i64 (i : Int) ∧ pv = .bool b ∧ Hid (b = (l.take i).any hasPages) ∧ Hid (Below w2.heap.size w2 wr))
  case atStart => exact ⟨0, false, by omega, rfl, rfl, Lib.hid (by simp), Lib.hid (Below.refl _ _)⟩
  case round =>
    obtain ⟨i, b, hi, rfl, rfl, HBV, HB⟩ := hrel
    cases gk with
    | succ g =>
      have hin : i < ln := by omega
      have hil : i < l.length := by rw [HLE.out]; exact hin
      obtain ⟨hwf, bb, o, rfl, hb, hc⟩ := (HRL.out.below HB.out) i hil
      have HAS := Lib.hid (any_snoc hasPages l i hil)
      generalize l[i] = p at *
      obtain ⟨a0, a1, a2, a3, a4, a5, a6⟩ := p
      have c5 := hc 5 (by omega)
      simp only [PT.cells, List.getElem?_cons_zero, List.getElem?_cons_succ] at c5
      have HII := Lib.hid hi
      clear hc hil hwf hi
      cases b with
      | true =>
        have HN : Hid (true = (l.take (i + 1)).any hasPages) := Lib.hid (by rw [HAS.out, ← HBV.out]; rfl)
        clear HAS HBV c5
        go_wp2_with fail
        go_roundg g
        case measure => omega
        case rel => exact ⟨i + 1, true, by have := HII.out; omega, by go_num, rfl, HN, HB⟩
      | false =>
        have HN : Hid (decide (0 < a5) = (l.take (i + 1)).any hasPages) := Lib.hid (by rw [HAS.out, ← HBV.out]; rfl)
        clear HAS HBV
        go_wp2_with fail
        go_roundg g
        case measure => omega
        case rel => exact ⟨i + 1, decide (0 < a5), by have := HII.out; omega, by go_num, rfl, HN, HB⟩
    | zero =>
      have hie : i = ln := by omega
      have HBE : Hid (b = !(pagedF l).isEmpty) := Lib.hid (by rw [HBV.out, List.take_of_length_le (by rw [HLE.out, hie]; exact Nat.le_refl _), any_paged])
      have B3 := Lib.hid (bstep B2.out HB.out)
      have HR3 := Lib.hid (HRL.out.below HB.out)
      obtain ⟨c0, c2, c53⟩ := HCF.out wr B3.out
      clear hi HBV HB B2 HRL c2 c53
      obtain rfl := hie.symm
      have hbt : b = true := by
        rw [HBE.out]
        cases hp : pagedF l with
        | nil => exact absurd hp HNE.out
        | cons p r => rfl
      subst hbt
      have HRE : Hid (R = if walkF BN 0 l ≠ 0 then walkF BN 0 l else restF ty ps) := Lib.hid (by rw [← HRR.out, placeF_rest (by have := HTY.out; omega) (by rw [HKL.out]; exact HNE.out), HKL.out])
      obtain ⟨W, hW⟩ : ∃ W, walkF BN 0 l = W := ⟨_, rfl⟩
      rw [hW] at HRE HWN
      have HW0 := Lib.hid hW
      clear HRR HBE hW
      obtain ⟨tv, htv⟩ : ∃ tv, tv = ty := ⟨_, rfl⟩
      have HTV := Lib.hid htv
      rw [← htv] at HRE
      clear htv
      have hty1 : ty = 2 := HTY.out
      subst hty1
      go_wp2_with fail
      clear c0
      generalize wr = w4 at *
      go_loopg [6] ln (fun g iv wx => ∃ (i e : Nat), i + g = ln ∧ iv = .int .i64 (i : Int) ∧ Hid (Ahead l i e) ∧ Hid (walkF BN e (l.drop i) = W) ∧ Hid (Below w1.heap.size w1 wx) ∧ Hid (Below w4.heap.size w4 wx))
      case atStart => exact ⟨0, 0, by omega, rfl, Lib.hid (ahead_zero l), Lib.hid (by rw [List.drop_zero]; exact HW0.out), B3, Lib.hid (Below.refl _ _)⟩
      case round =>
        obtain ⟨i, e, hi, rfl, HAH, HG, HB, HB4⟩ := hrel
        cases gk with
        | zero =>
          have hie : i = ln := by omega
          obtain rfl := hie.symm
          clear hi hie
          have HWZ : Hid (W = 0) := Lib.hid (by rw [← HG.out, List.drop_of_length_le (by rw [HLE.out]; exact Nat.le_refl _)]; rfl)
          have HLOW : Hid (∀ p ∈ l, p.low) := Lib.hid (fun p hp => walkF_low (HW0.out.trans HWZ.out) p hp)
          have HSPN := Lib.hid (rspan_any ad ln c l wr (HR3.out.below HB4.out) HLE.out hlnb HLOW.out)
          have HR1 := Lib.hid (HRE.out.trans (if_neg (by rw [HWZ.out]; exact fun h => h rfl)))
          obtain ⟨q, hq⟩ : ∃ q, beginF (pagedF l) = q := ⟨_, rfl⟩
          rw [hq] at HSPN
          have HQ : Hid (beginF (pagedF (kindF 1 ps)) = q) := Lib.hid (by rw [HKL.out]; exact hq)
          clear hq HG HAH HRE
          go_wp2_with fail
          refine HSPN.out.mono ?_
          rintro e5 w5 ⟨yy, rfl, hb5⟩
          have B5 := Lib.hid (bstep HB.out hb5)
          have B45 := Lib.hid (bstep HB4.out hb5)
          obtain ⟨c0, c2, -⟩ := HCF.out _ B5.out
          clear hb5 HSPN HB HB4
          by_cases hqq : tv = 2 ∧ q < 4096
          · first
              | exact absurd (HTV.out.symm.trans hqq.1) (by decide)
              | (have hq2 := hqq.2
                 have HRX : Hid (R = 4) := Lib.hid (by rw [HR1.out]; unfold restF; rw [HQ.out, if_pos hqq])
                 clear hqq HR1 c2
                 go_wp2_with fail
                 go_ret
                 exact ⟨by rw [HRX.out]; rfl, by have := HBW.out _ B5.out; rwa [HXB.out]⟩)
          have HR2 : Hid (R = if 1 < (kindF 1685382482 ps).length ∨ 1 < (kindF 7 ps).length then 3 else if (kindF 1685382482 ps).all (heldF (pagedF l)) then 0 else 3) := Lib.hid (by rw [HR1.out]; unfold restF; rw [HQ.out, if_neg hqq, HKL.out])
          first
            | (have hq3 : ¬ q < 4096 := fun h => hqq ⟨HTV.out, h⟩)
            | skip
          clear hqq HR1 HQ
          have hpnb : pn * 48 ≤ 140737488351232 := HPLN.out
          go_wp2_with fail
          try clear hq3
          clear c0
          go_loopg [12, 13, 14] pn (fun g rv sv iv wx => ∃ (i : Nat), i + g = pn ∧ rv = .int .i64 (((kindF 1685382482 (ps.take i)).length : Nat) : Int) ∧ sv = .int .i64 (((kindF 7 (ps.take i)).length : Nat) : Int) ∧ iv = .int .i64 (i : Int) ∧ w5 = wx)
          case atStart => exact ⟨0, by omega, by simp [kindF], by simp [kindF], rfl, rfl⟩
          case round =>
            obtain ⟨i, hi, rfl, rfl, rfl, rfl⟩ := hrel
            cases gk with
            | succ g =>
              have hin : i < pn := by omega
              have hil : i < ps.length := by rw [HPN.out]; exact hin
              obtain ⟨hwf, bb, o, hadd, hb, hc⟩ := (HPR.out.below B5.out) i hil
              subst hadd
              have HK1 := Lib.hid (kind_snoc 1685382482 ps i hil)
              have HK2 := Lib.hid (kind_snoc 7 ps i hil)
              have hr1 := kind_le 1685382482 ps i
              have hr2 := kind_le 7 ps i
              generalize ps[i] = p at *
              obtain ⟨a0, a1, a2, a3, a4, a5, a6⟩ := p
              have z0 := hc 0 (by omega)
              simp only [PT.cells, List.getElem?_cons_zero, Nat.add_zero] at z0
              simp only at HK1 HK2
              obtain ⟨r1, h1⟩ : ∃ r1, (kindF 1685382482 (ps.take i)).length = r1 := ⟨_, rfl⟩
              obtain ⟨r2, h2⟩ : ∃ r2, (kindF 7 (ps.take i)).length = r2 := ⟨_, rfl⟩
              rw [h1] at HK1 hr1 ⊢
              rw [h2] at HK2 hr2 ⊢
              have HII := Lib.hid hi
              clear h1 h2 hc hil hi hwf
              by_cases t1 : a0 = 1685382482
              · have m1 : ((a0 : Int) == 1685382482) = true := by rw [beq_iff_eq]; omega
                have m2 : ((a0 : Int) == 7) = false := by rw [beq_eq_false_iff_ne]; omega
                have n1 : Hid ((kindF 1685382482 (ps.take (i + 1))).length = r1 + 1) := Lib.hid (by rw [HK1.out, if_pos t1])
                have n2 : Hid ((kindF 7 (ps.take (i + 1))).length = r2) := Lib.hid (by rw [HK2.out, if_neg (by omega)]; rfl)
                clear t1 HK1 HK2
                go_wp2_with fail
                go_roundg g
                case measure => omega
                case rel => exact ⟨i + 1, by have := HII.out; omega, by rw [n1.out]; go_num, by rw [n2.out], by go_num, rfl⟩
              · have m1 : ((a0 : Int) == 1685382482) = false := by rw [beq_eq_false_iff_ne]; omega
                have n1 : Hid ((kindF 1685382482 (ps.take (i + 1))).length = r1) := Lib.hid (by rw [HK1.out, if_neg t1]; rfl)
                by_cases t2 : a0 = 7
                · have m2 : ((a0 : Int) == 7) = true := by rw [beq_iff_eq]; omega
                  have n2 : Hid ((kindF 7 (ps.take (i + 1))).length = r2 + 1) := Lib.hid (by rw [HK2.out, if_pos t2])
                  clear t1 t2 HK1 HK2
                  go_wp2_with fail
                  go_roundg g
                  case measure => omega
                  case rel => exact ⟨i + 1, by have := HII.out; omega, by rw [n1.out], by rw [n2.out]; go_num, by go_num, rfl⟩
                · have m2 : ((a0 : Int) == 7) = false := by rw [beq_eq_false_iff_ne]; omega
                  have n2 : Hid ((kindF 7 (ps.take (i + 1))).length = r2) := Lib.hid (by rw [HK2.out, if_neg t2]; rfl)
                  clear t1 t2 HK1 HK2
                  go_wp2_with fail
                  go_roundg g
                  case measure => omega
                  case rel => exact ⟨i + 1, by have := HII.out; omega, by rw [n1.out], by rw [n2.out], by go_num, rfl⟩
            | zero =>
              have hie : i = pn := by omega
              have htk : ps.take i = ps := List.take_of_length_le (by rw [HPN.out, hie]; exact Nat.le_refl _)
              rw [htk]
              clear htk hi
              obtain rfl := hie.symm
              clear hie
              obtain ⟨r1, h1⟩ : ∃ r1, (kindF 1685382482 ps).length = r1 := ⟨_, rfl⟩
              obtain ⟨r2, h2⟩ : ∃ r2, (kindF 7 ps).length = r2 := ⟨_, rfl⟩
              rw [h1, h2] at HR2
              rw [h1, h2]
              clear h1 h2
              by_cases t1 : 1 < r1
              · have HRX : Hid (R = 3) := Lib.hid (by rw [HR2.out, if_pos (.inl t1)])
                clear HR2
                go_wp2_with fail
                go_ret
                exact ⟨by rw [HRX.out]; rfl, by have := HBW.out _ B5.out; rwa [HXB.out]⟩
              by_cases t2 : 1 < r2
              · have HRX : Hid (R = 3) := Lib.hid (by rw [HR2.out, if_pos (.inr t2)])
                clear HR2
                go_wp2_with fail
                go_ret
                exact ⟨by rw [HRX.out]; rfl, by have := HBW.out _ B5.out; rwa [HXB.out]⟩
              have HR3' : Hid (R = if (kindF 1685382482 ps).all (heldF (pagedF l)) then 0 else 3) := Lib.hid (by rw [HR2.out, if_neg (by omega)])
              clear HR2
              go_wp2_with fail
              clear t1 t2
              clear c2
              go_loopg [15] pn (fun g iv wx => ∃ (i : Nat), i + g = pn ∧ iv = .int .i64 (i : Int) ∧ Hid (∀ p ∈ ps.take i, p.ty = 1685382482 → heldF (pagedF l) p = true) ∧ Hid (Below w5.heap.size w5 wx))
              case atStart => exact ⟨0, by omega, rfl, Lib.hid (fun p hp => by simp at hp), Lib.hid (Below.refl _ _)⟩
              case round =>
                obtain ⟨i, hi, rfl, HAL, HBC⟩ := hrel
                have B1C := Lib.hid (bstep B5.out HBC.out)
                have B4C := Lib.hid (bstep B45.out HBC.out)
                obtain ⟨-, c2, -⟩ := HCF.out _ B1C.out
                cases gk with
                | zero =>
                  have hie : i = pn := by omega
                  have HRX : Hid (R = 0) := Lib.hid (by
                    rw [HR3'.out, if_pos ?_]
                    have h1 := HAL.out
                    rw [List.take_of_length_le (by rw [HPN.out, hie]; exact Nat.le_refl _)] at h1
                    exact List.all_eq_true.2 (fun p hp => h1 p (mem_kind hp).1 (mem_kind hp).2))
                  clear HR3' hi
                  obtain rfl := hie.symm
                  clear hie
                  go_wp2_with fail
                  go_ret
                  exact ⟨by rw [HRX.out]; rfl, by have := HBW.out _ B1C.out; rwa [HXB.out]⟩
                | succ g =>
                  have hin : i < pn := by omega
                  have hil : i < ps.length := by rw [HPN.out]; exact hin
                  obtain ⟨hwf, bb, o, hadd, hb, hc⟩ := (HPR.out.below B1C.out) i hil
                  subst hadd
                  have HTK : Hid (ps.take (i + 1) = ps.take i ++ [ps[i]]) := Lib.hid (List.take_succ_eq_append_getElem hil)
                  have HMEM := Lib.hid (List.getElem_mem hil)
                  generalize ps[i] = p at *
                  have HNXT : Hid ((p.ty = 1685382482 → heldF (pagedF l) p = true) → ∀ p' ∈ ps.take (i + 1), p'.ty = 1685382482 → heldF (pagedF l) p' = true) := Lib.hid (fun h1 p' hp' => by
                    rw [HTK.out] at hp'
                    rcases List.mem_append.1 hp' with h2 | h2
                    · exact HAL.out p' h2
                    · rw [List.mem_singleton] at h2; subst h2; exact h1)
                  have HBADR : Hid (p.ty = 1685382482 → heldF (pagedF l) p = false → R = 3) := Lib.hid (fun h1 h2 => by
                    rw [HR3'.out, if_neg ?_]
                    intro h3
                    have h4 := List.all_eq_true.1 h3 p (by unfold kindF; rw [List.mem_filter]; exact ⟨HMEM.out, by simpa using h1⟩)
                    rw [h2] at h4
                    cases h4)
                  have HHF : Hid (heldF (pagedF l) p = (pagedF l).any (holdsF p)) := Lib.hid rfl
                  have HHD : Hid (∀ q : PT, holdsF p q = decide (downF q.vaddr ≤ p.vaddr ∧ p.vaddr ≤ endF q ∧ p.memsz ≤ endF q - p.vaddr)) := Lib.hid (fun q => rfl)
                  obtain ⟨HP, hHP⟩ : ∃ HP, holdsF p = HP := ⟨_, rfl⟩
                  rw [hHP] at HHF HHD
                  obtain ⟨a0, a1, a2, a3, a4, a5, a6⟩ := p
                  obtain ⟨f0, f1, f2, f3, f4, f5, f6⟩ := hwf
                  have c0 := hc 0 (by omega)
                  have c1 := hc 1 (by omega)
                  have c2 := hc 2 (by omega)
                  have c3 := hc 3 (by omega)
                  have c4 := hc 4 (by omega)
                  have c5 := hc 5 (by omega)
                  have c6 := hc 6 (by omega)
                  simp only [PT.cells, List.getElem?_cons_zero, List.getElem?_cons_succ, Nat.add_zero] at c0 c1 c2 c3 c4 c5 c6
                  simp only at HHD HNXT HBADR f3 f5
                  have HF35 := Lib.hid (And.intro f3 f5)
                  have BA : Hid (Below w5.heap.size w5 (wr.alloc (.cells #[.int .u32 (a0 : Int), .int .u32 (a1 : Int), .int .u64 (a2 : Int), .int .u64 (a3 : Int), .int .u64 (a4 : Int), .int .u64 (a5 : Int), .int .u64 (a6 : Int)] 60))) := Lib.hid (HBC.out.alloc HBC.out.size _)
                  have BA1 : Hid (Below w1.heap.size w1 (wr.alloc (.cells #[.int .u32 (a0 : Int), .int .u32 (a1 : Int), .int .u64 (a2 : Int), .int .u64 (a3 : Int), .int .u64 (a4 : Int), .int .u64 (a5 : Int), .int .u64 (a6 : Int)] 60))) := Lib.hid (bstep B5.out BA.out)
                  have BA4 : Hid (Below w4.heap.size w4 (wr.alloc (.cells #[.int .u32 (a0 : Int), .int .u32 (a1 : Int), .int .u64 (a2 : Int), .int .u64 (a3 : Int), .int .u64 (a4 : Int), .int .u64 (a5 : Int), .int .u64 (a6 : Int)] 60))) := Lib.hid (bstep B45.out BA.out)
                  have KB : Hid ((wr.alloc (.cells #[.int .u32 (a0 : Int), .int .u32 (a1 : Int), .int .u64 (a2 : Int), .int .u64 (a3 : Int), .int .u64 (a4 : Int), .int .u64 (a5 : Int), .int .u64 (a6 : Int)] 60)).heap[wr.heap.size]? = some (.cells #[.int .u32 (a0 : Int), .int .u32 (a1 : Int), .int .u64 (a2 : Int), .int .u64 (a3 : Int), .int .u64 (a4 : Int), .int .u64 (a5 : Int), .int .u64 (a6 : Int)] 60)) := Lib.hid (heap_alloc_new _ _)
                  obtain ⟨ne, hne⟩ : ∃ ne, ((a0 : Int) != 1685382482) = ne := ⟨_, rfl⟩
                  have HNE3 : Hid (ne = false ↔ a0 = 1685382482) := Lib.hid (by rw [← hne, bne_eq_false_iff_eq]; omega)
                  have HII := Lib.hid hi
                  clear hc hil hi hHP f0 f1 f2 f3 f4 f5 f6 HTK HMEM HAL
                  go_wp2_with fail
                  clear hne c0 c1 c2 c3 c4 c5 c6
                  generalize wr.alloc (.cells #[.int .u32 (a0 : Int), .int .u32 (a1 : Int), .int .u64 (a2 : Int), .int .u64 (a3 : Int), .int .u64 (a4 : Int), .int .u64 (a5 : Int), .int .u64 (a6 : Int)] 60) = wA at *
                  generalize wr.heap.size = yb at *
                  have KBF : Hid (∀ wx, Below wA.heap.size wA wx → wx.cell? ⟨yb, 3, none⟩ = some (.int .u64 (a3 : Int)) ∧ wx.cell? ⟨yb, 5, none⟩ = some (.int .u64 (a5 : Int))) := Lib.hid (fun wx hx => by
                    have hk := (hx.block _ (lt_of_block KB.out)).trans KB.out
                    exact ⟨(cell_of_row _ _ 3 _ _ _ hk), (cell_of_row _ _ 5 _ _ _ hk)⟩)
                  clear KB hb
                  go_loopg [17, 18] ln (fun g2 lv kv wx => ∃ (j : Nat) (b : Bool), j + g2 = ln ∧ kv = .int .i64 (j : Int) ∧ lv = .bool b ∧ Hid (b = (ne || (pagedF (l.take j)).any HP)) ∧ Hid (Below wA.heap.size wA wx))
                  case atStart => exact ⟨0, ne, by omega, rfl, rfl, Lib.hid (by simp [pagedF]), Lib.hid (Below.refl _ _)⟩
                  case round =>
                    obtain ⟨j, b, hj, rfl, rfl, HBV, HBJ⟩ := hrel
                    have BJ5 := Lib.hid (bstep BA.out HBJ.out)
                    have BJ1 := Lib.hid (bstep BA1.out HBJ.out)
                    have BJ4 := Lib.hid (bstep BA4.out HBJ.out)
                    have HOKB : Hid (b = true → a0 = 1685382482 → heldF (pagedF l) ⟨a0, a1, a2, a3, a4, a5, a6⟩ = true) := Lib.hid (fun hb ht => by
                      have h1 := HBV.out
                      rw [hb, HNE3.out.2 ht, Bool.false_or] at h1
                      rw [HHF.out]
                      obtain ⟨q, hq1, hq2⟩ := List.any_eq_true.1 h1.symm
                      refine List.any_eq_true.2 ⟨q, ?_, hq2⟩
                      unfold pagedF at hq1 ⊢
                      rw [List.mem_filter] at hq1 ⊢
                      exact ⟨List.mem_of_mem_take hq1.1, hq1.2⟩)
                    cases b with
                    | true =>
                      have HN := Lib.hid (HNXT.out (HOKB.out rfl))
                      have hjl : (j : Int) ≤ (ln : Int) := by omega
                      clear HBV HOKB
                      rcases Nat.lt_or_ge j ln with hjl2 | hjl2
                      all_goals (
                        go_wp2_with fail
                        go_roundg g
                        case measure => omega
                        case rel => exact ⟨i + 1, by have := HII.out; omega, by go_num, HN, BJ5⟩)
                    | false =>
                      cases gk with
                      | zero =>
                        have hje : j = ln := by omega
                        have HRX : Hid (R = 3) := Lib.hid (by
                          have h1 := HBV.out
                          rw [List.take_of_length_le (by rw [HLE.out, hje]; exact Nat.le_refl _)] at h1
                          have h2 : ne = false := by
                            cases ne with
                            | false => rfl
                            | true => exact absurd h1 (by simp)
                          rw [h2, Bool.false_or] at h1
                          exact HBADR.out (HNE3.out.1 h2) (by rw [HHF.out]; exact h1.symm))
                        clear HBV HOKB hj
                        obtain rfl := hje.symm
                        clear hje
                        go_wp2_with fail
                        go_ret
                        exact ⟨by rw [HRX.out]; rfl, by have := HBW.out _ BJ1.out; rwa [HXB.out]⟩
                      | succ g2 =>
                        have hjn : j < ln := by omega
                        have hjl : j < l.length := by rw [HLE.out]; exact hjn
                        obtain ⟨hwq, bb2, o2, hadd, hb9, hc9⟩ := (HR3.out.below BJ4.out) j hjl
                        have HPS := Lib.hid (paged_snoc l j hjl)
                        have HQL := Lib.hid (HLOW.out l[j] (List.getElem_mem hjl))
                        generalize l[j] = q at *
                        have HHQ := Lib.hid (HHD.out q)
                        have HFST := Lib.hid (fun wx => rfirst_any q wx hwq.2.2.2.1)
                        have HLST : Hid (0 < q.memsz → ∀ wx, Calls Try.prog 30 #[q.v] wx fun e w' => e = .returned (.int .u64 (((q.vaddr + q.memsz - 1) / 4096 : Nat) : Int)) ∧ Below wx.heap.size wx w') := Lib.hid (fun hm wx => rlast_any q wx HQL.out hm)
                        obtain ⟨b0, b1, b2, b3, b4, b5, b6⟩ := q
                        subst hadd
                        have q0 := hc9 0 (by omega)
                        have q1 := hc9 1 (by omega)
                        have q2 := hc9 2 (by omega)
                        have q3 := hc9 3 (by omega)
                        have q4 := hc9 4 (by omega)
                        have q5 := hc9 5 (by omega)
                        have q6 := hc9 6 (by omega)
                        simp only [PT.cells, List.getElem?_cons_zero, List.getElem?_cons_succ, Nat.add_zero] at q0 q1 q2 q3 q4 q5 q6
                        unfold PT.v PT.cells at HLST HFST
                        simp only at HLST HFST HHQ
                        have HJJ := Lib.hid hj
                        clear hc9 hjl hwq hj HOKB
                        by_cases hm : 0 < b5
                        · have HPS2 : Hid (pagedF (l.take (j + 1)) = pagedF (l.take j) ++ [⟨b0, b1, b2, b3, b4, b5, b6⟩]) := Lib.hid (by rw [HPS.out, if_pos (by simpa [hasPages] using hm)])
                          have m0 : ((b5 : Int) == 0) = false := by rw [beq_eq_false_iff_ne]; omega
                          have HLS := Lib.hid (HLST.out hm)
                          have HDE : Hid (downF b3 = b3 / 4096 * 4096 ∧ endF ⟨b0, b1, b2, b3, b4, b5, b6⟩ = ((b3 + b5 - 1) / 4096 + 1) * 4096) := Lib.hid ⟨rfl, by unfold endF downF; simp only; omega⟩
                          have HQ47 : Hid (b3 / 4096 * 4096 < 140737488355328 ∧ ((b3 + b5 - 1) / 4096 + 1) * 4096 ≤ 140737488355328) := Lib.hid (by have h1 := HQL.out; unfold PT.low at h1; simp only at h1; omega)
                          rw [HDE.out.1, HDE.out.2] at HHQ
                          have k1 : IntKind.u64.wrap (((b3 / 4096 : Nat) : Int) * 4096) = ((b3 / 4096 * 4096 : Nat) : Int) := by rw [IntKind.wrap_u64]; have := HQ47.out; omega
                          have k2 : IntKind.u64.wrap ((((b3 + b5 - 1) / 4096 : Nat) : Int) + 1) = (((b3 + b5 - 1) / 4096 + 1 : Nat) : Int) := by rw [IntKind.wrap_u64]; have := HQ47.out; omega
                          have k3 : IntKind.u64.wrap ((((b3 + b5 - 1) / 4096 + 1 : Nat) : Int) * 4096) = ((((b3 + b5 - 1) / 4096 + 1) * 4096 : Nat) : Int) := by rw [IntKind.wrap_u64]; have := HQ47.out; omega
                          obtain ⟨TO, hTO⟩ : ∃ TO, ((b3 + b5 - 1) / 4096 + 1) * 4096 = TO := ⟨_, rfl⟩
                          obtain ⟨FR, hFR⟩ : ∃ FR, b3 / 4096 * 4096 = FR := ⟨_, rfl⟩
                          rw [hTO] at k3 HHQ HQ47
                          rw [hFR] at k1 HHQ HQ47
                          generalize (b3 + b5 - 1) / 4096 + 1 = T1 at *
                          generalize (b3 + b5 - 1) / 4096 = T0 at *
                          generalize b3 / 4096 = F0 at *
                          have HNB : Hid (∀ r, r = HP ⟨b0, b1, b2, b3, b4, b5, b6⟩ → r = (ne || (pagedF (l.take (j + 1))).any HP)) := Lib.hid (fun r hr => by
                            have h1 := HBV.out
                            rw [HPS2.out, List.any_append, ← Bool.or_assoc, ← h1, Bool.false_or]
                            simp [hr])
                          rw [HHQ.out] at HNB
                          have KF2 : Hid (∀ wx, Below wr.heap.size wr wx → (wx.cell? ⟨yb, 3, none⟩ = some (.int .u64 (a3 : Int)) ∧ wx.cell? ⟨yb, 5, none⟩ = some (.int .u64 (a5 : Int))) ∧ wx.cell? ⟨bb2, o2 + j * 7, none⟩ = some (.int .u32 (b0 : Int)) ∧ wx.cell? ⟨bb2, o2 + j * 7 + 1, none⟩ = some (.int .u32 (b1 : Int)) ∧ wx.cell? ⟨bb2, o2 + j * 7 + 2, none⟩ = some (.int .u64 (b2 : Int)) ∧ wx.cell? ⟨bb2, o2 + j * 7 + 3, none⟩ = some (.int .u64 (b3 : Int)) ∧ wx.cell? ⟨bb2, o2 + j * 7 + 4, none⟩ = some (.int .u64 (b4 : Int)) ∧ wx.cell? ⟨bb2, o2 + j * 7 + 5, none⟩ = some (.int .u64 (b5 : Int)) ∧ wx.cell? ⟨bb2, o2 + j * 7 + 6, none⟩ = some (.int .u64 (b6 : Int))) := Lib.hid (fun wx hx =>
                            ⟨KBF.out _ (bstep HBJ.out hx), (hx.cell (p := ⟨bb2, _, none⟩) hb9).trans q0, (hx.cell (p := ⟨bb2, _, none⟩) hb9).trans q1, (hx.cell (p := ⟨bb2, _, none⟩) hb9).trans q2, (hx.cell (p := ⟨bb2, _, none⟩) hb9).trans q3, (hx.cell (p := ⟨bb2, _, none⟩) hb9).trans q4, (hx.cell (p := ⟨bb2, _, none⟩) hb9).trans q5, (hx.cell (p := ⟨bb2, _, none⟩) hb9).trans q6⟩)
                          clear hm HPS HPS2 HHQ HLST HDE HBV hTO hFR hb9
                          have K1 := Lib.hid k1; have K2 := Lib.hid k2; have K3 := Lib.hid k3
                          clear k2 k3
                          go_wp2_with fail
                          refine (HFST.out wr).mono ?_
                          rintro e8 w8 ⟨rfl, hb8⟩
                          have BW8 := Lib.hid hb8
                          obtain ⟨-, z0, z1, z2, z3, z4, z5, z6⟩ := KF2.out _ hb8
                          clear hb8 q0 q1 q2 q3 q4 q5 q6 HFST
                          go_wp2_with fail
                          refine (HLS.out w8).mono ?_
                          rintro e9 w9 ⟨rfl, hb9⟩
                          have BW9 := Lib.hid (bstep BW8.out hb9)
                          obtain ⟨⟨y3, y5⟩, -⟩ := KF2.out _ BW9.out
                          have BJ9 := Lib.hid (bstep HBJ.out BW9.out)
                          have k2 := K2.out
                          have k3 := K3.out
                          clear hb9 z0 z1 z2 z3 z4 z5 z6 HLS k1
                          by_cases t1 : FR ≤ a3
                          · by_cases t2 : a3 ≤ TO
                            · have k4 : IntKind.u64.wrap ((TO : Int) - (a3 : Int)) = ((TO - a3 : Nat) : Int) := by rw [IntKind.wrap_u64]; have := HQ47.out; omega
                              by_cases t3 : a5 ≤ TO - a3
                              · have HN := Lib.hid (HNB.out true (by rw [decide_eq_true ⟨t1, t2, t3⟩]))
                                clear HNB
                                generalize TO - a3 = qd at *
                                go_wp2_with fail
                                go_roundg g2
                                case measure => omega
                                case rel => exact ⟨j + 1, true, by have := HJJ.out; omega, by go_num, rfl, HN, BJ9⟩
                              · have HN := Lib.hid (HNB.out false (by rw [decide_eq_false (fun h => t3 h.2.2)]))
                                clear HNB
                                generalize TO - a3 = qd at *
                                go_wp2_with fail
                                go_roundg g2
                                case measure => omega
                                case rel => exact ⟨j + 1, false, by have := HJJ.out; omega, by go_num, rfl, HN, BJ9⟩
                            · have HN := Lib.hid (HNB.out false (by rw [decide_eq_false (fun h => t2 h.2.1)]))
                              clear HNB
                              go_wp2_with fail
                              go_roundg g2
                              case measure => omega
                              case rel => exact ⟨j + 1, false, by have := HJJ.out; omega, by go_num, rfl, HN, BJ9⟩
                          · have HN := Lib.hid (HNB.out false (by rw [decide_eq_false (fun h => t1 h.1)]))
                            clear HNB
                            go_wp2_with fail
                            go_roundg g2
                            case measure => omega
                            case rel => exact ⟨j + 1, false, by have := HJJ.out; omega, by go_num, rfl, HN, BJ9⟩
                        · have HN : Hid (false = (ne || (pagedF (l.take (j + 1))).any HP)) := Lib.hid (by rw [HPS.out, if_neg (by simpa [hasPages] using hm), List.append_nil]; exact HBV.out)
                          have m0 : ((b5 : Int) == 0) = true := by rw [beq_iff_eq]; omega
                          clear hm HPS HHQ HLST HBV HFST
                          go_wp2_with fail
                          go_roundg g2
                          case measure => omega
                          case rel => exact ⟨j + 1, false, by have := HJJ.out; omega, by go_num, rfl, HN, HBJ⟩
        | succ g =>
          have hin : i < ln := by omega
          have hil : i < l.length := by rw [HLE.out]; exact hin
          obtain ⟨hwf, bb, o, hadd, hb, hc⟩ := (HR3.out.below HB4.out) i hil
          subst hadd
          have HDR : Hid (l.drop i = l[i] :: l.drop (i + 1)) := Lib.hid (List.drop_eq_getElem_cons hil)
          have HST : Hid (segF BN e l[i] = 0 → Ahead l (i + 1) (nextE e l[i])) := Lib.hid (fun hs => ahead_step HAH.out hil hs)
          generalize l[i] = p at *
          have HFAIL : Hid (∀ c, segF BN e p = c → c ≠ 0 → False) := Lib.hid (fun c h1 h2 => by
            have hw : W = c := by rw [← HG.out, HDR.out, walkF_step, if_pos (by rw [h1]; exact h2), h1]
            exact h2 (hw.symm.trans HWN.out))
          have HGOOD : Hid (segF BN e p = 0 → walkF BN (nextE e p) (l.drop (i + 1)) = W) := Lib.hid (fun h1 => by rw [← HG.out, HDR.out, walkF_step, if_neg (by rw [h1]; exact fun h => h rfl)])
          have HSH := Lib.hid (fun h1 h2 h3 h4 => seg_hit (n := BN) (p := p) HAH.out h1 h2 h3 h4)
          obtain ⟨NE, hNE⟩ : ∃ NE, nextE e p = NE := ⟨_, rfl⟩
          rw [hNE] at HGOOD HST
          obtain ⟨SG, hSG⟩ : ∃ SG, segF BN e p = SG := ⟨_, rfl⟩
          rw [hSG] at HFAIL HGOOD HST HSH
          have HSGU : Hid (SG = segF BN e p) := Lib.hid hSG.symm
          have HFST := Lib.hid (fun wx => rfirst_any p wx hwf.2.2.2.1)
          have HHIT : Hid (∀ q : PT, hitF p q = decide (0 < p.memsz ∧ 0 < q.memsz ∧ p.vaddr / 4096 ≤ (q.vaddr + q.memsz - 1) / 4096)) := Lib.hid (fun q => rfl)
          obtain ⟨HP, hHP⟩ : ∃ HP, hitF p = HP := ⟨_, rfl⟩
          rw [hHP] at HSH HHIT
          obtain ⟨a0, a1, a2, a3, a4, a5, a6⟩ := p
          obtain ⟨f0, f1, f2, f3, f4, f5, f6⟩ := hwf
          have c0 := hc 0 (by omega)
          have c1 := hc 1 (by omega)
          have c2 := hc 2 (by omega)
          have c3 := hc 3 (by omega)
          have c4 := hc 4 (by omega)
          have c5 := hc 5 (by omega)
          have c6 := hc 6 (by omega)
          simp only [PT.cells, List.getElem?_cons_zero, List.getElem?_cons_succ, Nat.add_zero] at c0 c1 c2 c3 c4 c5 c6
          have BA : Hid (Below w1.heap.size w1 (wr.alloc (.cells #[.int .u32 (a0 : Int), .int .u32 (a1 : Int), .int .u64 (a2 : Int), .int .u64 (a3 : Int), .int .u64 (a4 : Int), .int .u64 (a5 : Int), .int .u64 (a6 : Int)] 60))) := Lib.hid (HB.out.alloc HB.out.size _)
          have BA4 : Hid (Below w4.heap.size w4 (wr.alloc (.cells #[.int .u32 (a0 : Int), .int .u32 (a1 : Int), .int .u64 (a2 : Int), .int .u64 (a3 : Int), .int .u64 (a4 : Int), .int .u64 (a5 : Int), .int .u64 (a6 : Int)] 60))) := Lib.hid (HB4.out.alloc HB4.out.size _)
          have KB : Hid ((wr.alloc (.cells #[.int .u32 (a0 : Int), .int .u32 (a1 : Int), .int .u64 (a2 : Int), .int .u64 (a3 : Int), .int .u64 (a4 : Int), .int .u64 (a5 : Int), .int .u64 (a6 : Int)] 60)).heap[wr.heap.size]? = some (.cells #[.int .u32 (a0 : Int), .int .u32 (a1 : Int), .int .u64 (a2 : Int), .int .u64 (a3 : Int), .int .u64 (a4 : Int), .int .u64 (a5 : Int), .int .u64 (a6 : Int)] 60)) := Lib.hid (heap_alloc_new _ _)
          obtain ⟨-, -, c53⟩ := HCF.out _ BA.out
          unfold PT.v PT.cells at HFST
          simp only at HFST HSH HHIT f0 f1 f2 f3 f4 f5 f6
          have HSGE : Hid (SG = if a5 < a4 then 3 else if BN < a2 ∨ BN - a2 < a4 then 4 else if 140737488355328 ≤ a3 ∨ 140737488355328 - a3 < a5 then 4 else if a3 % 4096 ≠ a2 % 4096 then 9 else if 0 < a5 ∧ a3 < e then 3 else 0) := Lib.hid (by rw [HSGU.out]; rfl)
          have hw0 : IntKind.u64.wrap (BN : Int) = (BN : Int) := by rw [IntKind.wrap_u64]; have := HBLN.out; omega
          have HII := Lib.hid hi
          clear hc hil hi hNE hSG hHP HSGU HDR HG
          by_cases h1 : a5 < a4
          · exact (HFAIL.out 3 (by rw [HSGE.out, if_pos h1]) (by decide)).elim
          have HS1 := Lib.hid (HSGE.out.trans (if_neg h1))
          by_cases h2 : BN < a2 ∨ BN - a2 < a4
          · exact (HFAIL.out 4 (by rw [HS1.out, if_pos h2]) (by decide)).elim
          have HS2 := Lib.hid (HS1.out.trans (if_neg h2))
          have h2a : ¬ BN < a2 := by omega
          have k1 : IntKind.u64.wrap ((BN : Int) - (a2 : Int)) = ((BN - a2 : Nat) : Int) := by rw [IntKind.wrap_u64]; have := HBLN.out; omega
          have k2 : ¬ BN - a2 < a4 := by omega
          have HN2 := Lib.hid h2
          clear h2
          obtain ⟨na, hna⟩ : ∃ na, BN - a2 = na := ⟨_, rfl⟩
          rw [hna] at k1 k2
          clear hna
          by_cases h3 : 140737488355328 ≤ a3 ∨ 140737488355328 - a3 < a5
          · exact (HFAIL.out 4 (by rw [HS2.out, if_pos h3]) (by decide)).elim
          have HS3 := Lib.hid (HS2.out.trans (if_neg h3))
          have k3 : IntKind.u64.wrap (140737488355328 - (a3 : Int)) = ((140737488355328 - a3 : Nat) : Int) := by rw [IntKind.wrap_u64]; omega
          have k4 : ¬ 140737488355328 - a3 < a5 := by omega
          have k5 : ¬ (140737488355328 : Int) ≤ (a3 : Int) := by omega
          have HN3 := Lib.hid h3
          clear h3
          obtain ⟨nb, hnb⟩ : ∃ nb, 140737488355328 - a3 = nb := ⟨_, rfl⟩
          rw [hnb] at k3 k4
          clear hnb
          by_cases h4 : a3 % 4096 ≠ a2 % 4096
          · exact (HFAIL.out 9 (by rw [HS3.out, if_pos h4]) (by decide)).elim
          have HS4 := Lib.hid (HSH.out h1 HN2.out HN3.out h4)
          have m5 : ((a3 : Int) % 4096 != (a2 : Int) % 4096) = false := by rw [bne_eq_false_iff_eq]; omega
          clear HSH f0 f1 f2 f4 f5 f6 h4
          have HF3 := Lib.hid f3
          clear f3
          go_wp2_with fail
          generalize wr.alloc (.cells #[.int .u32 (a0 : Int), .int .u32 (a1 : Int), .int .u64 (a2 : Int), .int .u64 (a3 : Int), .int .u64 (a4 : Int), .int .u64 (a5 : Int), .int .u64 (a6 : Int)] 60) = wA at *
          generalize wr.heap.size = yb at *
          have KBF : Hid (∀ wx, Below wA.heap.size wA wx → wx.cell? ⟨yb, 0, none⟩ = some (.int .u32 (a0 : Int)) ∧ wx.cell? ⟨yb, 1, none⟩ = some (.int .u32 (a1 : Int)) ∧ wx.cell? ⟨yb, 2, none⟩ = some (.int .u64 (a2 : Int)) ∧ wx.cell? ⟨yb, 3, none⟩ = some (.int .u64 (a3 : Int)) ∧ wx.cell? ⟨yb, 4, none⟩ = some (.int .u64 (a4 : Int)) ∧ wx.cell? ⟨yb, 5, none⟩ = some (.int .u64 (a5 : Int)) ∧ wx.cell? ⟨yb, 6, none⟩ = some (.int .u64 (a6 : Int))) := Lib.hid (fun wx hx => by
            have hk := (hx.block _ (lt_of_block KB.out)).trans KB.out
            exact ⟨(cell_of_row _ _ 0 _ _ _ hk), (cell_of_row _ _ 1 _ _ _ hk), (cell_of_row _ _ 2 _ _ _ hk), (cell_of_row _ _ 3 _ _ _ hk), (cell_of_row _ _ 4 _ _ _ hk), (cell_of_row _ _ 5 _ _ _ hk), (cell_of_row _ _ 6 _ _ _ hk)⟩)
          clear c0 c1 c2 c3 c4 c5 c6 c53 k1 k2 k3 k4 k5 m5 hw0 hb h1 h2a KB
          go_loopg [9] i (fun g2 kv wx => ∃ (j : Nat), j + g2 = i ∧ kv = .int .i64 (j : Int) ∧ Hid ((l.take j).any HP = false) ∧ Hid (Below wA.heap.size wA wx))
          case atStart => exact ⟨0, by omega, rfl, Lib.hid (by simp), Lib.hid (Below.refl _ _)⟩
          case round =>
            obtain ⟨j, hj, rfl, HNO, HBJ⟩ := hrel
            cases gk with
            | zero =>
              have hje : i = j := by omega
              subst hje
              have HZ : Hid (SG = 0) := Lib.hid (by rw [HS4.out, if_neg (by rw [HNO.out]; decide)])
              clear hj
              go_wp2_with fail
              go_roundg g
              case measure => omega
              case rel => exact ⟨i + 1, NE, by have := HII.out; omega, by go_num, Lib.hid (HST.out HZ.out), Lib.hid (HGOOD.out HZ.out), Lib.hid (bstep BA.out HBJ.out), Lib.hid (bstep BA4.out HBJ.out)⟩
            | succ g2 =>
              have hji : j < i := by omega
              have hjl : j < l.length := by rw [HLE.out]; omega
              have hmem : l[j] ∈ l.take i := by
                have h := List.getElem_mem (l := l.take i) (n := j) (by rw [List.length_take]; omega)
                rwa [List.getElem_take] at h
              have HQL := Lib.hid (HAH.out.low _ hmem)
              have B4J := Lib.hid (bstep BA4.out HBJ.out)
              obtain ⟨hwq, b9, o9, hadd, hb9, hc9⟩ := (HR3.out.below B4J.out) j hjl
              cases hadd
              have HAN := Lib.hid (any_snoc HP l j hjl)
              have HMEM := Lib.hid hmem
              generalize l[j] = q at *
              have HHQ := Lib.hid (HHIT.out q)
              have HLST : Hid (0 < q.memsz → ∀ wx, Calls Try.prog 30 #[q.v] wx fun e w' => e = .returned (.int .u64 (((q.vaddr + q.memsz - 1) / 4096 : Nat) : Int)) ∧ Below wx.heap.size wx w') := Lib.hid (fun hm wx => rlast_any q wx HQL.out hm)
              obtain ⟨b0, b1, b2, b3, b4, b5, b6⟩ := q
              have q0 := hc9 0 (by omega)
              have q1 := hc9 1 (by omega)
              have q2 := hc9 2 (by omega)
              have q3 := hc9 3 (by omega)
              have q4 := hc9 4 (by omega)
              have q5 := hc9 5 (by omega)
              have q6 := hc9 6 (by omega)
              simp only [PT.cells, List.getElem?_cons_zero, List.getElem?_cons_succ, Nat.add_zero] at q0 q1 q2 q3 q4 q5 q6
              unfold PT.v PT.cells at HLST
              simp only at HLST HHQ
              obtain ⟨p0, p1, p2, p3, p4, p5, p6⟩ := KBF.out _ HBJ.out
              have HJJ := Lib.hid hj
              have hjb : j * 48 ≤ 140737488351232 := by omega
              clear hc9 hjl hmem hwq hj
              by_cases h5 : 0 < a5
              · by_cases h6 : 0 < b5
                · have hLS := Lib.hid (HLST.out h6)
                  have i1 : (0 : Int) ≤ (j : Int) := by omega
                  have i2 : (j : Int) < (ln : Int) := by omega
                  have HHR : Hid (HP ⟨b0, b1, b2, b3, b4, b5, b6⟩ = decide (a3 / 4096 ≤ (b3 + b5 - 1) / 4096)) := Lib.hid (by rw [HHQ.out, decide_eq_decide]; exact ⟨fun h => h.2.2, fun h => ⟨h5, h6, h⟩⟩)
                  obtain ⟨FA, hFA⟩ : ∃ FA, a3 / 4096 = FA := ⟨_, rfl⟩
                  obtain ⟨T, hT⟩ : ∃ T, (b3 + b5 - 1) / 4096 = T := ⟨_, rfl⟩
                  have HFS2 := HFST
                  rw [hFA] at HFS2 HHR
                  rw [hT] at hLS HHR
                  clear hFA hT
                  have d1 : decide (0 < a5) = true := decide_eq_true h5
                  have d2 : decide ((0 : Int) < (a5 : Int)) = true := decide_eq_true (by omega)
                  have d3 : decide (0 < b5) = true := decide_eq_true h6
                  have d4 : decide ((0 : Int) < (b5 : Int)) = true := decide_eq_true (by omega)
                  have BB := Lib.hid (bstep BA.out HBJ.out)
                  have KQ : Hid (∀ wx, Below wr.heap.size wr wx → wx.cell? ⟨yb, 0, none⟩ = some (.int .u32 (a0 : Int)) ∧ wx.cell? ⟨yb, 1, none⟩ = some (.int .u32 (a1 : Int)) ∧ wx.cell? ⟨yb, 2, none⟩ = some (.int .u64 (a2 : Int)) ∧ wx.cell? ⟨yb, 3, none⟩ = some (.int .u64 (a3 : Int)) ∧ wx.cell? ⟨yb, 4, none⟩ = some (.int .u64 (a4 : Int)) ∧ wx.cell? ⟨yb, 5, none⟩ = some (.int .u64 (a5 : Int)) ∧ wx.cell? ⟨yb, 6, none⟩ = some (.int .u64 (a6 : Int)) ∧ wx.cell? ⟨bb, o + j * 7, none⟩ = some (.int .u32 (b0 : Int)) ∧ wx.cell? ⟨bb, o + j * 7 + 1, none⟩ = some (.int .u32 (b1 : Int)) ∧ wx.cell? ⟨bb, o + j * 7 + 2, none⟩ = some (.int .u64 (b2 : Int)) ∧ wx.cell? ⟨bb, o + j * 7 + 3, none⟩ = some (.int .u64 (b3 : Int)) ∧ wx.cell? ⟨bb, o + j * 7 + 4, none⟩ = some (.int .u64 (b4 : Int)) ∧ wx.cell? ⟨bb, o + j * 7 + 5, none⟩ = some (.int .u64 (b5 : Int)) ∧ wx.cell? ⟨bb, o + j * 7 + 6, none⟩ = some (.int .u64 (b6 : Int))) := Lib.hid (fun wx hx => by
                    obtain ⟨z0, z1, z2, z3, z4, z5, z6⟩ := KBF.out _ (bstep HBJ.out hx)
                    exact ⟨z0, z1, z2, z3, z4, z5, z6, (hx.cell (p := ⟨bb, _, none⟩) hb9).trans q0, (hx.cell (p := ⟨bb, _, none⟩) hb9).trans q1, (hx.cell (p := ⟨bb, _, none⟩) hb9).trans q2, (hx.cell (p := ⟨bb, _, none⟩) hb9).trans q3, (hx.cell (p := ⟨bb, _, none⟩) hb9).trans q4, (hx.cell (p := ⟨bb, _, none⟩) hb9).trans q5, (hx.cell (p := ⟨bb, _, none⟩) hb9).trans q6⟩)
                  clear h5 h6 HHQ HLST hb9
                  by_cases hhit : FA ≤ T
                  · exact (HFAIL.out 3 (by rw [HS4.out, if_pos (List.any_eq_true.2 ⟨_, HMEM.out, by rw [HHR.out]; exact decide_eq_true hhit⟩)]) (by decide)).elim
                  · have HN2 : Hid ((l.take (j + 1)).any HP = false) := Lib.hid (by rw [HAN.out, HNO.out, HHR.out, decide_eq_false hhit]; rfl)
                    have d5 : decide (FA ≤ T) = false := decide_eq_false hhit
                    have d6 : decide ((FA : Int) ≤ (T : Int)) = false := decide_eq_false (by omega)
                    clear hhit HHR HAN
                    go_wp2_with fail
                    go_region_held3 (fun wx => wx.cell? ⟨yb, 0, none⟩ = some (.int .u32 (a0 : Int)) ∧ wx.cell? ⟨yb, 1, none⟩ = some (.int .u32 (a1 : Int)) ∧ wx.cell? ⟨yb, 2, none⟩ = some (.int .u64 (a2 : Int)) ∧ wx.cell? ⟨yb, 3, none⟩ = some (.int .u64 (a3 : Int)) ∧ wx.cell? ⟨yb, 4, none⟩ = some (.int .u64 (a4 : Int)) ∧ wx.cell? ⟨yb, 5, none⟩ = some (.int .u64 (a5 : Int)) ∧ wx.cell? ⟨yb, 6, none⟩ = some (.int .u64 (a6 : Int)) ∧ wx.cell? ⟨bb, o + j * 7, none⟩ = some (.int .u32 (b0 : Int)) ∧ wx.cell? ⟨bb, o + j * 7 + 1, none⟩ = some (.int .u32 (b1 : Int)) ∧ wx.cell? ⟨bb, o + j * 7 + 2, none⟩ = some (.int .u64 (b2 : Int)) ∧ wx.cell? ⟨bb, o + j * 7 + 3, none⟩ = some (.int .u64 (b3 : Int)) ∧ wx.cell? ⟨bb, o + j * 7 + 4, none⟩ = some (.int .u64 (b4 : Int)) ∧ wx.cell? ⟨bb, o + j * 7 + 5, none⟩ = some (.int .u64 (b5 : Int)) ∧ wx.cell? ⟨bb, o + j * 7 + 6, none⟩ = some (.int .u64 (b6 : Int))) (first | exact KQ.out _ (Below.refl _ _).drew | exact KQ.out _ b7 | exact KQ.out _ b6) (first | (go_at_call 29; go_simp; refine (HFS2.out _).mono ?_; rintro e w6 ⟨rfl, hb6⟩; have b6 : Below wr.heap.size wr w6 := (by first | exact bstep b7 hb6 | exact bstep (Below.refl wr.heap.size wr).drew hb6); clear hb6) | (go_at_call 30; go_simp; refine (hLS.out _).mono ?_; rintro e w7 ⟨rfl, hb7⟩; have b7 : Below wr.heap.size wr w7 := (by first | exact bstep b6 hb7 | exact bstep (Below.refl wr.heap.size wr).drew hb7); clear hb7))
                    all_goals (
                      clear p0 p1 p2 p3 p4 p5 p6 q0 q1 q2 q3 q4 q5 q6
                      go_wp2_with fail
                      go_roundg g2
                      case measure => omega
                      case rel => exact ⟨j + 1, by have := HJJ.out; omega, by go_num, HN2, Lib.hid (by first | exact bstep HBJ.out b7 | exact bstep HBJ.out b6)⟩)
                · have HN2 : Hid ((l.take (j + 1)).any HP = false) := Lib.hid (by rw [HAN.out, HNO.out, HHQ.out, decide_eq_false (fun h => h6 h.2.1)]; rfl)
                  have d1 : decide (0 < a5) = true := decide_eq_true h5
                  have d2 : decide ((0 : Int) < (a5 : Int)) = true := decide_eq_true (by omega)
                  have d3 : decide (0 < b5) = false := decide_eq_false h6
                  have d4 : decide ((0 : Int) < (b5 : Int)) = false := decide_eq_false (by omega)
                  have i1 : (0 : Int) ≤ (j : Int) := by omega
                  have i2 : (j : Int) < (ln : Int) := by omega
                  clear h5 h6 HHQ HAN HLST
                  go_wp2_with fail
                  go_quiet (fail)
                  go_wp2_with fail
                  go_roundg g2
                  case measure => omega
                  case rel => exact ⟨j + 1, by have := HJJ.out; omega, by go_num, HN2, Lib.hid (below_drewN HBJ.out _)⟩
              · have HN2 : Hid ((l.take (j + 1)).any HP = false) := Lib.hid (by rw [HAN.out, HNO.out, HHQ.out, decide_eq_false (fun h => h5 h.1)]; rfl)
                have d1 : decide (0 < a5) = false := decide_eq_false h5
                have d2 : decide ((0 : Int) < (a5 : Int)) = false := decide_eq_false (by omega)
                clear h5 HHQ HAN HLST
                go_wp2_with fail
                go_quiet (fail)
                go_wp2_with fail
                go_roundg g2
                case measure => omega
                case rel => exact ⟨j + 1, by have := HJJ.out; omega, by go_num, HN2, Lib.hid (below_drewN HBJ.out _)⟩
end Go.Proofs.Ytjiifaeehhpkcaa
