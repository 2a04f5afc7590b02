/- Layer 15: where a segment's pages lie; what is amiss with it. -/
import Derived.Test.YtjiifaeehhpkcaaPlaceKit
import Derived.Deep.QuietTactic
import Derived.BigQuiet
namespace Go.Proofs.Ytjiifaeehhpkcaa
open Go.RowKit
set_option linter.unusedVariables false
set_option linter.unusedSimpArgs false

set_option maxRecDepth 100000 in
set_option maxHeartbeats 4000000 in
theorem pages_any (p : PT) (w : World) (hl : p.low) : Calls Try.prog 38 #[p.v] w fun e w' => e = .returned (.tuple #[.int .u64 (downF p.vaddr : Int), .int .u64 (endF p : Int)]) ∧ Below w.heap.size w w' := by
  obtain ⟨a0, a1, a2, a3, a4, a5, a6⟩ := p
  unfold PT.low at hl
  simp only at hl
  unfold endF
  simp only
  have HD := Lib.hid (fun wx => down_any a3 wx (by omega))
  have HE := Lib.hid (fun wx => down_any (a3 + a5 + 4095) wx (by omega))
  obtain ⟨s1, hs1⟩ : ∃ s1, a3 + a5 = s1 := ⟨_, rfl⟩
  have e1 : IntKind.u64.wrap ((a3 : Int) + (a5 : Int)) = (s1 : Int) := by rw [IntKind.wrap_u64]; omega
  have e2 : IntKind.u64.wrap ((s1 : Int) + 4096) = ((s1 + 4096 : Nat) : Int) := by rw [IntKind.wrap_u64]; omega
  have e3 : IntKind.u64.wrap (((s1 + 4096 : Nat) : Int) - 1) = ((s1 + 4095 : Nat) : Int) := by rw [IntKind.wrap_u64]; omega
  rw [hs1] at HE ⊢
  generalize s1 + 4096 = s2 at *
  generalize s1 + 4095 = s3 at *
  have B1 : Hid (Below w.heap.size w (w.alloc (.cells #[.int .u32 (a0 : Int), .int .u32 (a1 : Int), .int .u64 (a2 : Int), .int .u64 (a3 : Int), .int .u64 (a4 : Int), .int .u64 (a5 : Int), .int .u64 (a6 : Int)] 60))) := Lib.hid ((Below.refl _ _).alloc (Nat.le_refl _) _)
  generalize downF a3 = r1 at *
  generalize downF s3 = r2 at *
  clear hs1 hl
  unfold PT.v PT.cells
  go_enter Try.func38, Try.ntmps38
  go_wp2_with fail
  have hnew := heap_alloc_new w (.cells #[.int .u32 (a0 : Int), .int .u32 (a1 : Int), .int .u64 (a2 : Int), .int .u64 (a3 : Int), .int .u64 (a4 : Int), .int .u64 (a5 : Int), .int .u64 (a6 : Int)] 60)
  have c3 : (w.alloc (.cells #[.int .u32 (a0 : Int), .int .u32 (a1 : Int), .int .u64 (a2 : Int), .int .u64 (a3 : Int), .int .u64 (a4 : Int), .int .u64 (a5 : Int), .int .u64 (a6 : Int)] 60)).cell? ⟨w.heap.size, 3, none⟩ = some (.int .u64 (a3 : Int)) := by rw [cell_of_row _ _ 3 _ _ _ hnew]; rfl
  have c5 : (w.alloc (.cells #[.int .u32 (a0 : Int), .int .u32 (a1 : Int), .int .u64 (a2 : Int), .int .u64 (a3 : Int), .int .u64 (a4 : Int), .int .u64 (a5 : Int), .int .u64 (a6 : Int)] 60)).cell? ⟨w.heap.size, 5, none⟩ = some (.int .u64 (a5 : Int)) := by rw [cell_of_row _ _ 5 _ _ _ hnew]; rfl
  clear hnew
  generalize w.alloc (.cells #[.int .u32 (a0 : Int), .int .u32 (a1 : Int), .int .u64 (a2 : Int), .int .u64 (a3 : Int), .int .u64 (a4 : Int), .int .u64 (a5 : Int), .int .u64 (a6 : Int)] 60) = w1 at *
  generalize hxb : w.heap.size = xb at *
  have HXB := Lib.hid hxb
  clear hxb
  go_quiet (first | (go_at_call 36; exact Calls.quiet_of_same ((HD.out _).mono (by rintro e w9 ⟨rfl, rfl⟩; exact ⟨rfl, rfl⟩))) | (go_at_call 36; exact Calls.quiet_of_same ((HE.out _).mono (by rintro e w9 ⟨rfl, rfl⟩; exact ⟨rfl, rfl⟩))))
  go_wp2_with fail
  go_ret2
  exact ⟨rfl, by have := below_drewN B1.out nq; rwa [HXB.out]⟩

set_option maxRecDepth 100000 in
set_option maxHeartbeats 8000000 in
theorem segment_any (C : Array Value) (x : POb) (en : Nat) (p : PT) (w : World) (h : PCells w C x) (hp : p.wf) (hen : en < 18446744073709551616) :
    Calls Try.prog 37 #[.agg C, .int .u64 (en : Int), p.v] w fun e w' => e = .returned (errV (segF x.bs.length en p : Int)) ∧ Below w.heap.size w w' := by
  obtain ⟨a0, a1, a2, a3, a4, a5, a6⟩ := p
  obtain ⟨f0, f1, f2, f3, f4, f5, f6⟩ := hp
  obtain ⟨ad, cap, e53, -, -⟩ := h.bytes
  have h54 := h.size
  have hone := h.one
  have hbl := h.bl
  have e53' : C[53]'(by omega) = .slice ad x.bs.length cap := by
    rw [Array.getElem?_eq_getElem (by omega)] at e53
    exact Option.some.inj e53
  obtain ⟨n, hn⟩ : ∃ n, x.bs.length = n := ⟨_, rfl⟩
  rw [hn] at e53 hbl e53' ⊢
  clear hn h
  have hw0 : IntKind.u64.wrap (n : Int) = (n : Int) := by rw [IntKind.wrap_u64]; omega
  unfold segF
  simp only at f0 f1 f2 f3 f4 f5 f6 ⊢
  have B1 : Hid (Below w.heap.size w ((w.alloc (.cells C 39)).alloc (.cells #[.int .u32 (a0 : Int), .int .u32 (a1 : Int), .int .u64 (a2 : Int), .int .u64 (a3 : Int), .int .u64 (a4 : Int), .int .u64 (a5 : Int), .int .u64 (a6 : Int)] 60))) := Lib.hid (((Below.refl _ _).alloc (Nat.le_refl _) _).alloc (by simp) _)
  unfold PT.v PT.cells
  by_cases h1 : a5 < a4
  · rw [if_pos h1]
    go_enter Try.func37, Try.ntmps37
    go_wp2_with fail
    go_ret
    exact ⟨rfl, B1.out⟩
  rw [if_neg h1]
  by_cases h2 : n < a2 ∨ n - a2 < a4
  · rw [if_pos h2]
    by_cases h2a : n < a2
    · go_enter Try.func37, Try.ntmps37
      go_wp2_with fail
      go_ret
      exact ⟨rfl, B1.out⟩
    · have k1 : IntKind.u64.wrap ((n : Int) - (a2 : Int)) = ((n - a2 : Nat) : Int) := by rw [IntKind.wrap_u64]; omega
      have k2 : n - a2 < a4 := by omega
      generalize n - a2 = na at *
      go_enter Try.func37, Try.ntmps37
      go_wp2_with fail
      go_ret
      exact ⟨rfl, B1.out⟩
  rw [if_neg h2]
  have h2a : ¬ n < a2 := by omega
  have k1 : IntKind.u64.wrap ((n : Int) - (a2 : Int)) = ((n - a2 : Nat) : Int) := by rw [IntKind.wrap_u64]; omega
  have k2 : ¬ n - a2 < a4 := by omega
  clear h2
  generalize n - a2 = na at *
  by_cases h3 : 140737488355328 ≤ a3 ∨ 140737488355328 - a3 < a5
  · rw [if_pos h3]
    by_cases h3a : 140737488355328 ≤ a3
    · have k5 : (140737488355328 : Int) ≤ (a3 : Int) := by omega
      clear h3a h3 f0 f1 f2 f3 f4 f5 f6 hbl hen
      go_enter Try.func37, Try.ntmps37
      go_wp2_with fail
      go_ret
      exact ⟨rfl, B1.out⟩
    · have k3 : IntKind.u64.wrap (140737488355328 - (a3 : Int)) = ((140737488355328 - a3 : Nat) : Int) := by rw [IntKind.wrap_u64]; omega
      have k4 : 140737488355328 - a3 < a5 := by omega
      generalize 140737488355328 - a3 = nb at *
      have k5 : ¬ (140737488355328 : Int) ≤ (a3 : Int) := by omega
      clear h3a h3 f0 f1 f2 f3 f4 f5 f6 hbl hen
      go_enter Try.func37, Try.ntmps37
      go_wp2_with fail
      go_ret
      exact ⟨rfl, B1.out⟩
  rw [if_neg h3]
  have h3a : ¬ 140737488355328 ≤ a3 := by omega
  have k3 : IntKind.u64.wrap (140737488355328 - (a3 : Int)) = ((140737488355328 - a3 : Nat) : Int) := by rw [IntKind.wrap_u64]; omega
  have k4 : ¬ 140737488355328 - a3 < a5 := by omega
  clear h3
  generalize 140737488355328 - a3 = nb at *
  have m1 : (a3 : Int).tmod 4096 = ((a3 % 4096 : Nat) : Int) := by rw [Int.tmod_eq_emod_of_nonneg (by omega)]; omega
  have m2 : (a2 : Int).tmod 4096 = ((a2 % 4096 : Nat) : Int) := by rw [Int.tmod_eq_emod_of_nonneg (by omega)]; omega
  have m3 : IntKind.u64.wrap (((a3 % 4096 : Nat) : Int)) = ((a3 % 4096 : Nat) : Int) := by rw [IntKind.wrap_u64]; omega
  have m4 : IntKind.u64.wrap (((a2 % 4096 : Nat) : Int)) = ((a2 % 4096 : Nat) : Int) := by rw [IntKind.wrap_u64]; omega
  have k5 : ¬ (140737488355328 : Int) ≤ (a3 : Int) := by omega
  clear h3a
  by_cases h4 : a3 % 4096 ≠ a2 % 4096
  · rw [if_pos h4]
    have m5 : ((a3 : Int) % 4096 != (a2 : Int) % 4096) = true := by rw [bne_iff_ne]; omega
    clear f0 f1 f2 f3 f4 f5 f6 hbl hen h4 m1 m2 m3 m4
    go_enter Try.func37, Try.ntmps37
    go_wp2_with fail
    go_ret
    exact ⟨rfl, B1.out⟩
  rw [if_neg h4]
  have m5 : ((a3 : Int) % 4096 != (a2 : Int) % 4096) = false := by rw [bne_eq_false_iff_eq]; omega
  clear f0 f1 f2 f3 f4 f5 f6 hbl hen h4 m1 m2 m3 m4
  by_cases h5 : 0 < a5
  · by_cases h6 : a3 < en
    · rw [if_pos ⟨h5, h6⟩]
      go_enter Try.func37, Try.ntmps37
      go_wp2_with fail
      go_ret
      exact ⟨rfl, B1.out⟩
    · rw [if_neg (fun h => h6 h.2)]
      go_enter Try.func37, Try.ntmps37
      go_wp2_with fail
      go_ret
      exact ⟨rfl, B1.out⟩
  · rw [if_neg (fun h => h5 h.1)]
    go_enter Try.func37, Try.ntmps37
    go_wp2_with fail
    go_ret
    exact ⟨rfl, B1.out⟩

set_option maxRecDepth 100000 in
set_option maxHeartbeats 8000000 in
theorem held_any (s : PT) (a : Option Addr) (n cap : Nat) (l : List PT) (w : World) (h : PRow w a l) (hl : l.length = n) (hn : n * 48 ≤ 140737488351232) (hlow : ∀ p ∈ l, p.low) (hs : s.wf) :
    Calls Try.prog 39 #[.slice a n cap, s.v] w fun e w' => e = .returned (.bool (heldF (pagedF l) s)) ∧ Below w.heap.size w w' := by
  obtain ⟨s0, s1, s2, s3, s4, s5, s6⟩ := s
  obtain ⟨f0, f1, f2, f3, f4, f5, f6⟩ := hs
  obtain ⟨R, hR⟩ : ∃ R, heldF (pagedF l) ⟨s0, s1, s2, s3, s4, s5, s6⟩ = R := ⟨_, rfl⟩
  rw [hR]
  have BA : Hid (Below w.heap.size w (w.alloc (.cells #[.int .u32 (s0 : Int), .int .u32 (s1 : Int), .int .u64 (s2 : Int), .int .u64 (s3 : Int), .int .u64 (s4 : Int), .int .u64 (s5 : Int), .int .u64 (s6 : Int)] 60))) := Lib.hid ((Below.refl _ _).alloc (Nat.le_refl _) _)
  have HNW : Hid ((w.alloc (.cells #[.int .u32 (s0 : Int), .int .u32 (s1 : Int), .int .u64 (s2 : Int), .int .u64 (s3 : Int), .int .u64 (s4 : Int), .int .u64 (s5 : Int), .int .u64 (s6 : Int)] 60)).heap[w.heap.size]? = some (.cells #[.int .u32 (s0 : Int), .int .u32 (s1 : Int), .int .u64 (s2 : Int), .int .u64 (s3 : Int), .int .u64 (s4 : Int), .int .u64 (s5 : Int), .int .u64 (s6 : Int)] 60)) := Lib.hid (heap_alloc_new _ _)
  have HPG := Lib.hid (paged_any a n cap l _ (h.below BA.out) hl hn)
  have HLOW := Lib.hid (fun p hp => hlow p (mem_paged hp).1)
  have HWF := Lib.hid (fun p hp => h.wf p (mem_paged (l := l) hp).1)
  have HLN : Hid ((pagedF l).length ≤ n) := Lib.hid (by rw [← hl]; exact List.length_filter_le _ _)
  have HR : Hid (((pagedF l).drop 0).any (holdsF ⟨s0, s1, s2, s3, s4, s5, s6⟩) = R) := Lib.hid hR
  have HN := Lib.hid hn
  clear h hl hlow hR
  generalize pagedF l = pl at *
  unfold PT.v PT.cells
  go_enter Try.func39, Try.ntmps39
  go_wp2_with fail
  generalize w.alloc (.cells #[.int .u32 (s0 : Int), .int .u32 (s1 : Int), .int .u64 (s2 : Int), .int .u64 (s3 : Int), .int .u64 (s4 : Int), .int .u64 (s5 : Int), .int .u64 (s6 : Int)] 60) = w1 at *
  refine HPG.out.mono ?_
  rintro e w2 ⟨ad, c, rfl, ho, hb⟩
  have HPR := Lib.hid (OwnP.row ho HWF.out).2.1
  have B2 : Hid (∀ wx, Below w2.heap.size w2 wx → Below w.heap.size w wx) := Lib.hid (fun wx hx => bstep (bstep BA.out hb) hx)
  have HX2 := Lib.hid ((hb.block _ (lt_of_block HNW.out)).trans HNW.out)
  clear ho hb HPG HNW
  generalize hxb : w.heap.size = xb at *
  have HXB := Lib.hid hxb
  clear hxb
  obtain ⟨N, hN⟩ : ∃ N, pl.length = N := ⟨_, rfl⟩
  rw [hN] at HLN ⊢
  have HPN := Lib.hid hN
  have HNB : Hid (N * 48 ≤ 140737488351232) := Lib.hid (by have := HLN.out; have := HN.out; omega)
  clear hN hn
  go_wp2_with fail
  go_loopg [12] N (fun g iv wr => ∃ (k : Nat), k + g = N ∧ iv = .int .i64 (k : Int) ∧ Hid ((pl.drop k).any (holdsF ⟨s0, s1, s2, s3, s4, s5, s6⟩) = R) ∧ Hid (Below w2.heap.size w2 wr))
  case atStart => exact ⟨0, by omega, rfl, HR, Lib.hid (Below.refl _ _)⟩
  case round =>
    obtain ⟨k, hk, rfl, HG, HB⟩ := hrel
    clear HR
    cases gk with
    | zero =>
      have hke : k = N := by omega
      subst hke
      clear hk
      have HE : Hid (R = false) := Lib.hid (by rw [← HG.out, List.drop_of_length_le (by rw [HPN.out]; exact Nat.le_refl _)]; rfl)
      go_wp2_with fail
      go_ret
      exact ⟨by rw [HE.out]; rfl, by have := B2.out _ HB.out; rwa [HXB.out]⟩
    | succ g =>
      have hkn : k < N := by omega
      have hnb : N * 48 ≤ 140737488351232 := HNB.out
      have hkl : k < pl.length := by rw [HPN.out]; exact hkn
      obtain ⟨hwf, b, o, rfl, hb, hc⟩ := (HPR.out.below HB.out) k hkl
      have HLW := Lib.hid (HLOW.out pl[k] (List.getElem_mem hkl))
      have HDR : Hid (pl.drop k = pl[k] :: pl.drop (k + 1)) := Lib.hid (List.drop_eq_getElem_cons hkl)
      generalize pl[k] = p at *
      have HPA := Lib.hid (fun wx => pages_any p wx HLW.out)
      obtain ⟨q1, hq1⟩ : ∃ q1, downF p.vaddr = q1 := ⟨_, rfl⟩
      obtain ⟨q2, hq2⟩ : ∃ q2, endF p = q2 := ⟨_, rfl⟩
      have HQ2 : Hid (q2 ≤ 140737488355328) := Lib.hid (by rw [← hq2]; exact end_low HLW.out)
      rw [hq1, hq2] at HPA
      have HH : Hid (holdsF ⟨s0, s1, s2, s3, s4, s5, s6⟩ p = decide (q1 ≤ s3 ∧ s3 ≤ q2 ∧ s5 ≤ q2 - s3)) := Lib.hid (by unfold holdsF; rw [hq1, hq2])
      obtain ⟨a0, a1, a2, a3, a4, a5, a6⟩ := p
      have c0 := hc 0 (by omega)
      have c1 := hc 1 (by omega)
      have c2 := hc 2 (by omega)
      have c3 := hc 3 (by omega)
      have c4 := hc 4 (by omega)
      have c5 := hc 5 (by omega)
      have c6 := hc 6 (by omega)
      simp only [PT.cells, List.getElem?_cons_zero, List.getElem?_cons_succ, Nat.add_zero] at c0 c1 c2 c3 c4 c5 c6
      unfold PT.v PT.cells at HPA
      simp only at HPA
      have BA2 : Hid (Below w2.heap.size w2 (wr.alloc (.cells #[.int .u32 (a0 : Int), .int .u32 (a1 : Int), .int .u64 (a2 : Int), .int .u64 (a3 : Int), .int .u64 (a4 : Int), .int .u64 (a5 : Int), .int .u64 (a6 : Int)] 60))) := Lib.hid (HB.out.alloc HB.out.size _)
      have HKK := Lib.hid hk
      clear hc hkl hwf hk hq1 hq2
      go_wp2_with fail
      generalize wr.alloc (.cells #[.int .u32 (a0 : Int), .int .u32 (a1 : Int), .int .u64 (a2 : Int), .int .u64 (a3 : Int), .int .u64 (a4 : Int), .int .u64 (a5 : Int), .int .u64 (a6 : Int)] 60) = wA at *
      refine (HPA.out wA).mono ?_
      rintro e w5 ⟨rfl, hb5⟩
      have B5 := Lib.hid (bstep BA2.out hb5)
      have BW5 := Lib.hid (B2.out _ B5.out)
      have hx5 := (B5.out.block _ (lt_of_block HX2.out)).trans HX2.out
      have d3 : w5.cell? ⟨xb, 3, none⟩ = some (.int .u64 (s3 : Int)) := by rw [cell_of_row _ _ 3 _ _ _ hx5]; rfl
      have d5 : w5.cell? ⟨xb, 5, none⟩ = some (.int .u64 (s5 : Int)) := by rw [cell_of_row _ _ 5 _ _ _ hx5]; rfl
      clear hb5 hx5 HPA c0 c1 c2 c3 c4 c5 c6 hb
      generalize wr.heap.size = yb at *
      have HT : Hid ((pl.drop (k + 1)).any (holdsF ⟨s0, s1, s2, s3, s4, s5, s6⟩) = R ∨ holdsF ⟨s0, s1, s2, s3, s4, s5, s6⟩ ⟨a0, a1, a2, a3, a4, a5, a6⟩ = true) := Lib.hid (by
        have := HG.out
        rw [HDR.out, List.any_cons] at this
        cases hh : holdsF ⟨s0, s1, s2, s3, s4, s5, s6⟩ ⟨a0, a1, a2, a3, a4, a5, a6⟩ with
        | true => exact .inr rfl
        | false => rw [hh] at this; exact .inl (by simpa using this))
      have HT2 : Hid (holdsF ⟨s0, s1, s2, s3, s4, s5, s6⟩ ⟨a0, a1, a2, a3, a4, a5, a6⟩ = true → R = true) := Lib.hid (fun hh => by
        have := HG.out
        rw [HDR.out, List.any_cons, hh] at this
        simpa using this.symm)
      rw [HH.out] at HT HT2
      clear HG HDR HH HLW f0 f1 f2 f3 f4 f5 f6
      by_cases t1 : q1 ≤ s3
      · by_cases t2 : s3 ≤ q2
        · have k1 : IntKind.u64.wrap ((q2 : Int) - (s3 : Int)) = ((q2 - s3 : Nat) : Int) := by rw [IntKind.wrap_u64]; have := HQ2.out; omega
          by_cases t3 : s5 ≤ q2 - s3
          · have HRT : Hid (R = true) := Lib.hid (HT2.out (decide_eq_true ⟨t1, t2, t3⟩))
            clear HT HT2
            generalize q2 - s3 = qd at *
            go_wp2_with fail
            go_ret
            exact ⟨by rw [HRT.out]; rfl, by have := BW5.out; rwa [HXB.out]⟩
          · have HG := Lib.hid (HT.out.resolve_right (by simp only [decide_eq_true_eq]; exact fun h => t3 h.2.2))
            clear HT HT2
            generalize q2 - s3 = qd at *
            go_wp2_with fail
            go_roundg g
            case measure => omega
            case rel => exact ⟨k + 1, by have := HKK.out; omega, by go_num, HG, B5⟩
        · have HG := Lib.hid (HT.out.resolve_right (by simp only [decide_eq_true_eq]; exact fun h => t2 h.2.1))
          clear HT HT2
          go_wp2_with fail
          go_roundg g
          case measure => omega
          case rel => exact ⟨k + 1, by have := HKK.out; omega, by go_num, HG, B5⟩
      · have HG := Lib.hid (HT.out.resolve_right (by simp only [decide_eq_true_eq]; exact fun h => t1 h.1))
        clear HT HT2
        go_wp2_with fail
        go_roundg g
        case measure => omega
        case rel => exact ⟨k + 1, by have := HKK.out; omega, by go_num, HG, B5⟩
end Go.Proofs.Ytjiifaeehhpkcaa
