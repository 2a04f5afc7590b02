/- Layer 15: the document's answer, whether an object can be mapped (printed by wip/tools/asm4.py). -/
import Derived.Test.YtjiifaeehhpkcaaPlaceRcF
namespace Go.Proofs.Ytjiifaeehhpkcaa
open Go.RowKit
set_option linter.unusedVariables false
set_option linter.unusedSimpArgs false

set_option maxRecDepth 100000 in
set_option maxHeartbeats 64000000 in
theorem rcheck_b (C : Array Value) (x : POb) (w : World) (h : PCells w C x) (hbad : (x.ty ≠ 2 ∧ x.ty ≠ 3) ∨ pagedF (kindF 1 x.ps) = []) :
    Calls Try.prog 10 #[.agg C] w fun e w' => e = .returned (.int .i64 (placeF x.ty x.bs.length x.ps : Int)) ∧ Below w.heap.size w w' := by
  have h54 := h.size
  have hone := h.one
  have hc0 := h.c0
  obtain ⟨pa, pcap, hc2, hrow⟩ := h.head
  obtain ⟨ba, bcap, hc53, -, -⟩ := h.bytes
  have HI := Lib.hid h.info
  have B1 : Hid (Below w.heap.size w (w.alloc (.cells C 39))) := Lib.hid ((Below.refl _ _).alloc (Nat.le_refl _) _)
  have HX : Hid ((w.alloc (.cells C 39)).heap[w.heap.size]? = some (.cells C 39)) := Lib.hid (heap_alloc_new _ _)
  have HXF : Hid (∀ wx, Below (w.alloc (.cells C 39)).heap.size (w.alloc (.cells C 39)) wx → wx.heap[w.heap.size]? = some (.cells C 39)) := Lib.hid (fun wx hx => (hx.block _ (lt_of_block HX.out)).trans HX.out)
  have HCF : Hid (∀ wx, Below (w.alloc (.cells C 39)).heap.size (w.alloc (.cells C 39)) wx → wx.cell? ⟨w.heap.size, 0, none⟩ = some (.int .i64 x.ty) ∧ wx.cell? ⟨w.heap.size, 2, none⟩ = some (.slice pa x.ps.length pcap) ∧ wx.cell? ⟨w.heap.size, 53, none⟩ = some (.slice ba x.bs.length bcap)) := Lib.hid (fun wx hx =>
    ⟨(cell_of_row _ _ 0 _ _ _ (HXF.out wx hx)).trans hc0, (cell_of_row _ _ 2 _ _ _ (HXF.out wx hx)).trans hc2, (cell_of_row _ _ 53 _ _ _ (HXF.out wx hx)).trans hc53⟩)
  have HSE := Lib.hid (rsegments_any C x _ (h.below B1.out))
  have HWF : Hid (∀ p ∈ kindF 1 x.ps, p.wf) := Lib.hid (fun p hp => h.wf p (mem_kind hp).1)
  have HLN : Hid ((kindF 1 x.ps).length * 48 ≤ 140737488351232) := Lib.hid (by have h1 : (kindF 1 x.ps).length ≤ x.ps.length := List.length_filter_le _ _; have := h.pl; omega)
  have HPLN := Lib.hid h.pl
  have HBLN := Lib.hid h.bl
  have HBW : Hid (∀ wx, Below (w.alloc (.cells C 39)).heap.size (w.alloc (.cells C 39)) wx → Below w.heap.size w wx) := Lib.hid (fun wx hx => bstep B1.out hx)
  have HPR : Hid (PRow (w.alloc (.cells C 39)) pa x.ps) := Lib.hid (hrow.below B1.out)
  have HBAD := Lib.hid hbad
  obtain ⟨R, hR⟩ : ∃ R, placeF x.ty x.bs.length x.ps = R := ⟨_, rfl⟩
  rw [hR]
  have HRR := Lib.hid hR
  clear h B1 hR hrow hc0 hc2 hc53 hbad
  generalize hkl : kindF 1 x.ps = l at *
  have HKL := Lib.hid hkl
  clear hkl
  obtain ⟨ty, hty⟩ : ∃ ty, x.ty = ty := ⟨_, rfl⟩
  obtain ⟨BN, hBN⟩ : ∃ BN, x.bs.length = BN := ⟨_, rfl⟩
  obtain ⟨ps, hps⟩ : ∃ ps, x.ps = ps := ⟨_, rfl⟩
  rw [hty, hBN, hps] at HRR
  rw [hty] at HBAD
  rw [hps] at HKL HPR HPLN
  rw [hBN] at HBLN
  rw [hty, hBN, hps] at HCF
  clear hty hBN hps
  obtain ⟨pn, hpn⟩ : ∃ pn, ps.length = pn := ⟨_, rfl⟩
  rw [hpn] at HCF HPLN
  have HPN := Lib.hid hpn
  clear hpn
  go_enter Try.func10, Try.ntmps10
  go_wp2_with (refine wpList_load_row rfl 39 _ rfl w.heap.size rfl 39 C (0, 0) _ HX.out Try.underlying39 rfl HI.out ?_)
  generalize w.alloc (.cells C 39) = w1 at *
  generalize hxb : w.heap.size = xb at *
  have HXB := Lib.hid hxb
  clear hxb
  refine HSE.out.mono ?_
  rintro e w2 ⟨ad, c, rfl, ho, hb⟩
  have HRL := Lib.hid (OwnP.row ho HWF.out).2.1
  have B2 := Lib.hid hb
  clear ho hb HSE HX
  obtain ⟨ln, hln⟩ : ∃ ln, l.length = ln := ⟨_, rfl⟩
  rw [hln] at HLN ⊢
  have HLE := Lib.hid hln
  have hlnb : ln * 48 ≤ 140737488351232 := HLN.out
  clear hln
  go_wp2_with fail
  go_loopg [4, 5] ln (fun g pv iv wr => ∃ (i : Nat) (b : Bool), i + g = ln ∧ iv = .int .i64 (i : Int) ∧ pv = .bool b ∧ Hid (b = (l.take i).any hasPages) ∧ Hid (Below w2.heap.size w2 wr))
  case atStart => exact ⟨0, false, by omega, rfl, rfl, Lib.hid (by simp), Lib.hid (Below.refl _ _)⟩
  case round =>
    obtain ⟨i, b, hi, rfl, rfl, HBV, HB⟩ := hrel
    cases gk with
    | succ g =>
      have hin : i < ln := by omega
      have hil : i < l.length := by rw [HLE.out]; exact hin
      obtain ⟨hwf, bb, o, rfl, hb, hc⟩ := (HRL.out.below HB.out) i hil
      have HAS := Lib.hid (any_snoc hasPages l i hil)
      generalize l[i] = p at *
      obtain ⟨a0, a1, a2, a3, a4, a5, a6⟩ := p
      have c5 := hc 5 (by omega)
      simp only [PT.cells, List.getElem?_cons_zero, List.getElem?_cons_succ] at c5
      have HII := Lib.hid hi
      clear hc hil hwf hi
      cases b with
      | true =>
        have HN : Hid (true = (l.take (i + 1)).any hasPages) := Lib.hid (by rw [HAS.out, ← HBV.out]; rfl)
        clear HAS HBV c5
        go_wp2_with fail
        go_roundg g
        case measure => omega
        case rel => exact ⟨i + 1, true, by have := HII.out; omega, by go_num, rfl, HN, HB⟩
      | false =>
        have HN : Hid (decide (0 < a5) = (l.take (i + 1)).any hasPages) := Lib.hid (by rw [HAS.out, ← HBV.out]; rfl)
        clear HAS HBV
        go_wp2_with fail
        go_roundg g
        case measure => omega
        case rel => exact ⟨i + 1, decide (0 < a5), by have := HII.out; omega, by go_num, rfl, HN, HB⟩
    | zero =>
      have hie : i = ln := by omega
      have HBE : Hid (b = !(pagedF l).isEmpty) := Lib.hid (by rw [HBV.out, List.take_of_length_le (by rw [HLE.out, hie]; exact Nat.le_refl _), any_paged])
      have B3 := Lib.hid (bstep B2.out HB.out)
      have HR3 := Lib.hid (HRL.out.below HB.out)
      obtain ⟨c0, c2, c53⟩ := HCF.out wr B3.out
      clear hi HBV HB B2 HRL c2 c53
      obtain rfl := hie.symm
      by_cases hkind : ty ≠ 2 ∧ ty ≠ 3
      · have HR9 : Hid (R = 3) := Lib.hid (by rw [← HRR.out]; unfold placeF; rw [if_pos (.inl hkind)])
        have m1 : (ty != 2) = true := by rw [bne_iff_ne]; exact hkind.1
        have m2 : (ty != 3) = true := by rw [bne_iff_ne]; exact hkind.2
        clear HRR hkind
        go_wp2_with fail
        go_ret
        exact ⟨by rw [HR9.out]; rfl, by have := HBW.out _ B3.out; rwa [HXB.out]⟩
      have hk2 : ty = 2 ∨ ty = 3 := by omega
      clear hkind
      have HTY := Lib.hid hk2
      cases b with
      | false =>
        have HR9 : Hid (R = 3) := Lib.hid (by
          have h1 := HBE.out
          have h2 : pagedF (kindF 1 ps) = [] := by
            rw [HKL.out]
            cases hp : pagedF l with
            | nil => rfl
            | cons p r => rw [hp] at h1; exact absurd h1 (by simp)
          rw [← HRR.out]; unfold placeF; rw [if_pos (.inr h2)])
        clear HRR HBE
        rcases hk2 with rfl | rfl
        all_goals (
          go_wp2_with fail
          go_ret
          exact ⟨by rw [HR9.out]; rfl, by have := HBW.out _ B3.out; rwa [HXB.out]⟩)
      | true =>
        rcases HBAD.out with h1 | h1
        · omega
        · have h2 := HBE.out
          rw [h1] at h2
          exact absurd h2 (by simp)
end Go.Proofs.Ytjiifaeehhpkcaa
