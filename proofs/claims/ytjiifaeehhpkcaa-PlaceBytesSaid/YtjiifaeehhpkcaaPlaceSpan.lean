/- Layer 15: where an object's pages lie. -/
import Derived.Test.YtjiifaeehhpkcaaPlacePg
import Derived.IntWalk
namespace Go.Proofs.Ytjiifaeehhpkcaa
open Go.RowKit
set_option linter.unusedVariables false
set_option linter.unusedSimpArgs false

set_option maxRecDepth 100000 in
set_option maxHeartbeats 8000000 in
theorem span_any (C : Array Value) (x : POb) (w : World) (h : PCells w C x) (hne : pagedF (kindF 1 x.ps) ≠ []) (hlow : ∀ p ∈ kindF 1 x.ps, p.low) (hb0 : beginF (pagedF (kindF 1 x.ps)) ≤ endF (lastP (pagedF (kindF 1 x.ps)))) :
    Calls Try.prog 20 #[.agg C] w fun e w' => e = .returned (.tuple #[.int .u64 (beginF (pagedF (kindF 1 x.ps)) : Int), .int .i64 (spanN (pagedF (kindF 1 x.ps)) : Int)]) ∧ Below w.heap.size w w' := by
  have h54 := h.size
  have hone := h.one
  have HI := Lib.hid h.info
  have B1 : Hid (Below w.heap.size w (w.alloc (.cells C 39))) := Lib.hid ((Below.refl _ _).alloc (Nat.le_refl _) _)
  have HK : Hid ((w.alloc (.cells C 39)).heap[w.heap.size]? = some (.cells C 39)) := Lib.hid (heap_alloc_new _ _)
  have HSE := Lib.hid (segments_any C x _ (h.below B1.out))
  have HWF : Hid (∀ p ∈ kindF 1 x.ps, p.wf) := Lib.hid (fun p hp => h.wf p (mem_kind hp).1)
  have HLN : Hid ((kindF 1 x.ps).length * 48 ≤ 140737488351232) := Lib.hid (by have h1 : (kindF 1 x.ps).length ≤ x.ps.length := List.length_filter_le _ _; have := h.pl; omega)
  have HLOW := Lib.hid hlow
  clear h hlow
  generalize kindF 1 x.ps = l at *
  obtain ⟨q1, hq1⟩ : ∃ q1, beginF (pagedF l) = q1 := ⟨_, rfl⟩
  obtain ⟨SN, hSN⟩ : ∃ SN, spanN (pagedF l) = SN := ⟨_, rfl⟩
  rw [hq1, hSN]
  have HQ1 : Hid (downF (headP (pagedF l)).vaddr = q1) := Lib.hid hq1
  have HSN : Hid ((endF (lastP (pagedF l)) - q1) / 4096 = SN) := Lib.hid (by rw [← hSN, ← hq1]; rfl)
  rw [hq1] at hb0
  clear hq1 hSN
  go_enter Try.func20, Try.ntmps20
  go_wp2_with (refine wpList_load_row rfl 39 _ rfl w.heap.size rfl 39 C (0, 0) _ HK.out Try.underlying39 rfl HI.out ?_)
  refine HSE.out.mono ?_
  rintro e w2 ⟨ad, c, rfl, ho, hb⟩
  have B2 := Lib.hid (bstep B1.out hb)
  have HPG := Lib.hid (paged_any ad l.length c l w2 (OwnP.row ho HWF.out).2.1 rfl HLN.out)
  clear ho hb HSE HK
  go_wp2_with fail
  refine HPG.out.mono ?_
  rintro e w3 ⟨ad3, c3, rfl, ho, hb⟩
  have B3 := Lib.hid (bstep B2.out hb)
  have HR := Lib.hid (OwnP.row ho (fun p hp => HWF.out p (mem_paged hp).1)).2.1
  have HL3 := Lib.hid (fun p hp => HLOW.out p (mem_paged (l := l) hp).1)
  clear ho hb HPG HLOW HWF
  have HPL : Hid ((pagedF l).length * 48 ≤ 140737488351232) := Lib.hid (by have h1 : (pagedF l).length ≤ l.length := List.length_filter_le _ _; have := HLN.out; omega)
  generalize pagedF l = pl at *
  obtain ⟨N, hN⟩ : ∃ N, pl.length = N + 1 := ⟨pl.length - 1, by have := List.length_pos_iff.2 hne; omega⟩
  have HF0 := Lib.hid (headP_mem hne)
  have HFL := Lib.hid (lastP_mem hne)
  have hh : pl[0]'(by omega) = headP pl := by unfold headP; simp [List.getD, List.getElem?_eq_getElem (show 0 < pl.length by omega)]
  have hl : pl[N]'(by omega) = lastP pl := by unfold lastP; simp [List.getD, hN, List.getElem?_eq_getElem (show N < pl.length by omega)]
  obtain ⟨hwf0, b, o, rfl, hlt, hc0⟩ := HR.out 0 (by omega)
  obtain ⟨hwf1, b', o', e', -, hc1⟩ := HR.out N (by omega)
  cases e'
  rw [hh] at hc0
  rw [hl] at hc1
  have HP0 := Lib.hid (fun wx => pages_any (headP pl) wx (HL3.out _ HF0.out))
  have HP1 := Lib.hid (fun wx => pages_any (lastP pl) wx (HL3.out _ HFL.out))
  have HE1 := Lib.hid (end_low (HL3.out _ HFL.out))
  generalize headP pl = p at *
  generalize lastP pl = q at *
  obtain ⟨q2, hq2⟩ : ∃ q2, endF q = q2 := ⟨_, rfl⟩
  rw [HQ1.out] at HP0
  rw [hq2] at HP1 HE1 hb0 HSN
  have HB0 := Lib.hid hb0
  obtain ⟨a0, a1, a2, a3, a4, a5, a6⟩ := p
  obtain ⟨s0, s1, s2, s3, s4, s5, s6⟩ := q
  have c0 := hc0 0 (by omega)
  have c1 := hc0 1 (by omega)
  have c2 := hc0 2 (by omega)
  have c3 := hc0 3 (by omega)
  have c4 := hc0 4 (by omega)
  have c5 := hc0 5 (by omega)
  have c6 := hc0 6 (by omega)
  have d0 := hc1 0 (by omega)
  have d1 := hc1 1 (by omega)
  have d2 := hc1 2 (by omega)
  have d3 := hc1 3 (by omega)
  have d4 := hc1 4 (by omega)
  have d5 := hc1 5 (by omega)
  have d6 := hc1 6 (by omega)
  simp only [PT.cells, List.getElem?_cons_zero, List.getElem?_cons_succ, Nat.add_zero, Nat.zero_mul] at c0 c1 c2 c3 c4 c5 c6 d0 d1 d2 d3 d4 d5 d6
  unfold PT.v PT.cells at HP0 HP1
  simp only at HP0 HP1
  have HD0 : Hid (∀ wx, Below w3.heap.size w3 wx → wx.cell? ⟨b, o + N * 7, none⟩ = w3.cell? ⟨b, o + N * 7, none⟩ ∧ wx.cell? ⟨b, o + N * 7 + 1, none⟩ = w3.cell? ⟨b, o + N * 7 + 1, none⟩ ∧ wx.cell? ⟨b, o + N * 7 + 2, none⟩ = w3.cell? ⟨b, o + N * 7 + 2, none⟩ ∧ wx.cell? ⟨b, o + N * 7 + 3, none⟩ = w3.cell? ⟨b, o + N * 7 + 3, none⟩ ∧ wx.cell? ⟨b, o + N * 7 + 4, none⟩ = w3.cell? ⟨b, o + N * 7 + 4, none⟩ ∧ wx.cell? ⟨b, o + N * 7 + 5, none⟩ = w3.cell? ⟨b, o + N * 7 + 5, none⟩ ∧ wx.cell? ⟨b, o + N * 7 + 6, none⟩ = w3.cell? ⟨b, o + N * 7 + 6, none⟩) :=
    Lib.hid (fun wx hx => ⟨hx.cell (p := ⟨b, _, none⟩) hlt, hx.cell (p := ⟨b, _, none⟩) hlt, hx.cell (p := ⟨b, _, none⟩) hlt, hx.cell (p := ⟨b, _, none⟩) hlt, hx.cell (p := ⟨b, _, none⟩) hlt, hx.cell (p := ⟨b, _, none⟩) hlt, hx.cell (p := ⟨b, _, none⟩) hlt⟩)
  rw [d0, d1, d2, d3, d4, d5, d6] at HD0
  have hnb : N + 1 ≤ 140737488351232 := by have := HPL.out; rw [hN] at this; omega
  have k1 : IntKind.i64.wrap ((N : Int) + 1 - 1) = (N : Int) := by rw [IntKind.wrap_i64]; omega
  have hN2 := hN
  rw [hN]
  clear hc0 hc1 hq2 HQ1 hh hl hN2 d0 d1 d2 d3 d4 d5 d6 hb0 HPL hlt hwf0 hwf1
  have HNN := Lib.hid hN
  clear hN
  go_wp2_with fail
  refine (HP0.out w3).mono ?_
  rintro e w4 ⟨rfl, hb4⟩
  have B4 := Lib.hid (bstep B3.out hb4)
  obtain ⟨d0, d1, d2, d3, d4, d5, d6⟩ := HD0.out _ hb4
  clear hb4 HP0 HD0 c0 c1 c2 c3 c4 c5 c6
  go_wp2_with fail
  refine (HP1.out w4).mono ?_
  rintro e w5 ⟨rfl, hb5⟩
  have B5 := Lib.hid (bstep B4.out hb5)
  have k2 : IntKind.u64.wrap ((q2 : Int) - (q1 : Int)) = ((q2 - q1 : Nat) : Int) := by rw [IntKind.wrap_u64]; have := HB0.out; have := HE1.out; omega
  have k7 : ((q2 - q1 : Nat) : Int) / 4096 = (SN : Int) := by have := HSN.out; omega
  have k8 : SN ≤ 34359738368 := by rw [← HSN.out]; have := HE1.out; omega
  generalize q2 - q1 = qd at *
  have k9 : Hid (wrap64 (IntKind.u64.wrap ((qd : Int) / 4096)) = (SN : Int)) := Lib.hid (by
    rw [k7]
    have e1 : IntKind.u64.wrap (SN : Int) = (SN : Int) := by rw [IntKind.wrap_u64]; omega
    rw [e1]
    exact IntWalk.wrap64_in _ ⟨by omega, by omega⟩)
  clear k7 k8
  clear d0 d1 d2 d3 d4 d5 d6 hb5
  go_wp2_with fail
  go_ret2
  exact ⟨by rw [← k9.out]; rfl, B5.out⟩
end Go.Proofs.Ytjiifaeehhpkcaa
