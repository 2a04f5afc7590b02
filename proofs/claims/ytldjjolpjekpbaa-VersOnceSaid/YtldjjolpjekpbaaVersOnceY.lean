/- Layer 8: the statement that no index is told twice: its walk, where there are versions. -/
import Derived.Test.YtldjjolpjekpbaaVersOnceW
namespace Go.Proofs.Ytldjjolpjekpbaa
open Go.RowKit Go.Maps
set_option linter.unusedVariables false
set_option linter.unusedSimpArgs false

theorem in_start (T : List Nat) (V : Nat) : (((V : Int) % 32768 == 0) || ((V : Int) % 32768 == 1)) = decide (V % 32768 ≤ 1 ∨ V % 32768 ∈ T.take 0) := by
  by_cases h : V % 32768 ≤ 1
  · have : (V : Int) % 32768 = 0 ∨ (V : Int) % 32768 = 1 := by omega
    rw [decide_eq_true (Or.inl h)]
    rcases this with h1 | h1 <;> simp [h1]
  · have h1 : ¬ (V : Int) % 32768 = 0 := by omega
    have h2 : ¬ (V : Int) % 32768 = 1 := by omega
    rw [decide_eq_false (by simpa using h)]
    simp [h1, h2]
theorem in_step (T : List Nat) (V j : Nat) (hj : j < T.length) : decide (V % 32768 ≤ 1 ∨ V % 32768 ∈ T.take (j + 1)) = (decide (V % 32768 ≤ 1 ∨ V % 32768 ∈ T.take j) || (((T.getD j 0 : Nat) : Int) == (V : Int) % 32768)) := by
  rw [List.take_succ_eq_append_getElem hj]
  have hg : T.getD j 0 = T[j] := by simp [List.getD, hj]
  rw [hg]
  have he : (((T[j] : Nat) : Int) == (V : Int) % 32768) = decide (V % 32768 = T[j]) := by
    rw [Bool.eq_iff_iff]
    simp only [beq_iff_eq, decide_eq_true_eq]
    omega
  rw [he, ← Bool.decide_or]
  simp only [List.mem_append, List.mem_singleton, or_assoc]

set_option maxRecDepth 100000 in
set_option maxHeartbeats 16000000 in
theorem once_yes (a : Option Addr) (cap : Nat) (bs : List Nat) (ty en : Int) (p : Option Addr) (pc : Nat) (ps : List PT) (d : DT) (n : Int) (w : World) (hb : BRow w a bs) (hbl : bs.length ≤ 140737488351232) (hbc : bs.length ≤ cap) (hbn : a = none → bs.length = 0 ∧ cap = 0)
    (h : PRow w p ps) (hl : ps.length ≤ 140737488351232) (hd : d.wf) (hn1 : -9223372036854775808 ≤ n) (hn2 : n < 9223372036854775808) (X : VersD) (hX : versF bs ps d n = (X, 0)) (hh : X.has = true) (hT : ToldOk (toldV X)) (hO : ∀ x ∈ X.of, wordOk (toldV X) x = true ∧ x < 65536) (hN : (X.of.length : Int) = n) (hn4 : n ≤ 4096) :
    Calls Try.prog 3 #[.slice a bs.length cap, headV ty en p ps.length pc, .agg d.cells, .int .i64 n] w fun e w' => e = .returned (.bool true) ∧ Below w.heap.size w w' := by
  have HRD := Lib.hid (fun (w1 : World) (hb1 : Below w.heap.size w w1) => vread_any a cap bs ty en p pc ps d n w1 (hb.below hb1) hbl hbc hbn (h.below hb1) hl hd hn1 hn2)
  rw [hX] at HRD
  have HUP := Lib.hid (fun w1 => vup_true w1)
  have HTO := Lib.hid hT
  have HOF := Lib.hid hO
  have HLEN := Lib.hid hN
  clear h hb hbl hbc hbn hl hX hd hT hO hN
  have HI : Hid ((Try.prog.info? 29).map (·.size) = some d.cells.size) := Lib.hid (show _ = some 37 by kernel_rfl)
  generalize d.cells = D at *
  have B1 : Hid (Below w.heap.size w ((w.alloc (.cells #[.int .i64 ty, .int .u64 en, .slice p ps.length pc] 26)).alloc (.cells D 29))) := Lib.hid (((Below.refl _ _).alloc (Nat.le_refl _) _).alloc (by simp) _)
  have HG : Hid (((w.alloc (.cells #[.int .i64 ty, .int .u64 en, .slice p ps.length pc] 26)).alloc (.cells D 29)).heap[w.heap.size + 1]? = some (.cells D 29)) := Lib.hid (by
    have := heap_alloc_new (w.alloc (.cells #[.int .i64 ty, .int .u64 en, .slice p ps.length pc] 26)) (.cells D 29)
    simpa using this)
  have HH : Hid (((w.alloc (.cells #[.int .i64 ty, .int .u64 en, .slice p ps.length pc] 26)).alloc (.cells D 29)).heap[w.heap.size]? = some (.cells #[.int .i64 ty, .int .u64 en, .slice p ps.length pc] 26)) := Lib.hid ((heap_alloc_old _ _ (by simp)).trans (heap_alloc_new _ _))
  unfold headV at *
  go_enter Try.func3, Try.ntmps3
  go_wp2_with fail
  refine (HUP.out _).mono ?_
  rintro e w1 ⟨rfl, hb1⟩
  have BU := Lib.hid (bstep B1.out hb1)
  have HG1 := Lib.hid ((hb1.block _ (lt_of_block HG.out)).trans HG.out)
  have HH1 := (hb1.block _ (lt_of_block HH.out)).trans HH.out
  have k0 : w1.cell? ⟨w.heap.size, 0, none⟩ = some (.int .i64 ty) := by rw [cell_of_row _ _ _ _ _ _ HH1]; rfl
  have k1 : w1.cell? ⟨w.heap.size, 1, none⟩ = some (.int .u64 en) := by rw [cell_of_row _ _ _ _ _ _ HH1]; rfl
  have k2 : w1.cell? ⟨w.heap.size, 2, none⟩ = some (.slice p ps.length pc) := by rw [cell_of_row _ _ _ _ _ _ HH1]; rfl
  clear hb1 HH1 HH HG HUP
  go_wp2_with (refine wpList_load_row rfl 29 _ rfl (w.heap.size + 1) rfl 29 D (0, 0) _ HG1.out Try.underlying29 rfl HI.out ?_)
  refine (HRD.out _ BU.out).mono ?_
  rintro e w2 ⟨oa, oc, da, dc, drows, na, nc, nrows, he, hoi, hds, hdr, hns, hnr, hb2⟩
  replace he : e = .returned (.tuple #[.agg #[.bool X.has, .slice oa X.of.length oc, .slice da X.defs.length dc, .slice na X.needs.length nc], .nilIface]) := he
  rw [hh] at he
  subst he
  have B2 := Lib.hid (bstep BU.out hb2)
  have BV : Hid (Below w2.heap.size w2 (w2.alloc (.cells #[.bool true, .slice oa X.of.length oc, .slice da X.defs.length dc, .slice na X.needs.length nc] 35))) := Lib.hid ((Below.refl _ _).alloc (Nat.le_refl _) _)
  have HV : Hid (VIn X w2.heap.size oa oc da dc na nc drows nrows w1.heap.size (w2.alloc (.cells #[.bool true, .slice oa X.of.length oc, .slice da X.defs.length dc, .slice na X.needs.length nc] 35))) := Lib.hid (by
    refine ⟨?_, hoi.below BV.out, hds.below BV.out, hdr.imp (fun v q ho => ho.below BV.out), hns.below BV.out, hnr.imp (fun v q ho => ho.below BV.out)⟩
    rw [hh]
    exact heap_alloc_new _ _)
  have B3 := Lib.hid (bstep B2.out BV.out)
  clear hoi hds hdr hns hnr hb2 HRD k0 k1 k2 HG1 BV HI BU B1 hh
  have kc := HV.out.c0
  obtain ⟨u, hu⟩ : ∃ u, w2.heap.size = u := ⟨_, rfl⟩
  rw [hu] at HV kc
  have hW3 : (w2.alloc (.cells #[.bool true, .slice oa X.of.length oc, .slice da X.defs.length dc, .slice na X.needs.length nc] 35)) = (w2.alloc (.cells #[.bool true, .slice oa X.of.length oc, .slice da X.defs.length dc, .slice na X.needs.length nc] 35)) := rfl
  clear hW3 kc
  go_wp2_with fail
  try rw [hu]
  obtain ⟨w3, hw3⟩ : ∃ w3, (w2.alloc (.cells #[.bool true, .slice oa X.of.length oc, .slice da X.defs.length dc, .slice na X.needs.length nc] 35)) = w3 := ⟨_, rfl⟩
  rw [hw3] at HV B3
  try rw [hw3]
  clear hw3 hu
  have HL32 : Hid ((toldV X).length ≤ 32768) := Lib.hid HTO.out.len
  obtain ⟨nd, hnd⟩ : ∃ nd, X.defs.length = nd := ⟨_, rfl⟩
  obtain ⟨nn, hnn⟩ : ∃ nn, X.needs.length = nn := ⟨_, rfl⟩
  have HND := Lib.hid hnd
  have HNN := Lib.hid hnn
  have HC2 : Hid (∀ w', Below w3.heap.size w3 w' → w'.cell? ⟨u, 2, none⟩ = some (.slice da nd dc) ∧ w'.cell? ⟨u, 3, none⟩ = some (.slice na nn nc)) := Lib.hid (fun w' h => by
    have h1 := (HV.out.below h).c2
    have h2 := (HV.out.below h).c3
    rw [hnd] at h1
    rw [hnn] at h2
    exact ⟨h1, h2⟩)
  obtain ⟨L1, hL1⟩ : ∃ L1, X.defs.map DefD.idx = L1 := ⟨_, rfl⟩
  have HL1 : Hid (L1.length = nd) := Lib.hid (by rw [← hL1, List.length_map, hnd])
  have HDA : Hid (∀ w', Below w3.heap.size w3 w' → ∀ i, i < nd → ∃ b o, da = some ⟨b, o, none⟩ ∧ w'.cell? ⟨b, o + i * 4, none⟩ = some (.int .i64 ((L1.getD i 0 : Nat) : Int))) := Lib.hid (fun w' h i hi => by
    obtain ⟨b, o, e, hc⟩ := (HV.out.below h).defAt (i := i) (by rw [hnd]; exact hi)
    refine ⟨b, o, e, ?_⟩
    rw [hc, ← hL1, List.getD, List.getElem?_map, List.getElem?_eq_getElem (by rw [hnd]; exact hi)]
    rfl)
  obtain ⟨AL, hAL⟩ : ∃ AL, X.needs.map (fun d => d.aux.map AuxD.idx) = AL := ⟨_, rfl⟩
  have HAL : Hid (AL.length = nn) := Lib.hid (by rw [← hAL, List.length_map, hnn])
  have HNA : Hid (∀ i, i < nn → ∃ b o aa ac, na = some ⟨b, o, none⟩ ∧ (∀ w', Below w3.heap.size w3 w' → w'.cell? ⟨b, o + i * 2 + 1, none⟩ = some (.slice aa (AL.getD i []).length ac)) ∧ ∀ w', Below w3.heap.size w3 w' → ∀ k, k < (AL.getD i []).length → ∃ b o, aa = some ⟨b, o, none⟩ ∧ w'.cell? ⟨b, o + k * 3, none⟩ = some (.int .i64 (((AL.getD i []).getD k 0 : Nat) : Int))) := Lib.hid (fun i hi => by
    have hi' : i < X.needs.length := by rw [hnn]; exact hi
    obtain ⟨b, o, aa, ac, e, hc, ho⟩ := HV.out.needAt hi'
    have hg : AL.getD i [] = X.needs[i].aux.map AuxD.idx := by
      rw [← hAL, List.getD, List.getElem?_map, List.getElem?_eq_getElem hi']
      rfl
    rw [hg]
    refine ⟨b, o, aa, ac, e, fun w' h2 => by rw [List.length_map]; exact (h2.cell (by simpa using World.block_lt_of_cell? w3 _ hc)).trans hc, fun w' h2 k hk => ?_⟩
    rw [List.length_map] at hk
    obtain ⟨b2, o2, e2, hc2⟩ := auxAt (ho.below h2) hk
    refine ⟨b2, o2, e2, ?_⟩
    rw [hc2, List.getD, List.getElem?_map, List.getElem?_eq_getElem hk]
    rfl)
  have HLL : Hid (toldV X = L1 ++ AL.flatten) := Lib.hid (by rw [← hL1, ← hAL]; rfl)
  have hnd32 : nd ≤ 32768 := by
    have h1 := HL32.out
    rw [HLL.out, List.length_append, HL1.out] at h1
    omega
  have hnn63 : nn ≤ 9223372036854775807 := by
    have h1 := HV.out.ns.1
    rw [hnn] at h1
    rcases h1 with ⟨-, ⟨e, h0⟩ | ⟨g, cap, cur, e, -, -, h1, h2, -⟩⟩
    · injection e with e1 e2 e3
      omega
    · injection e with e1 e2 e3
      rw [e2]
      exact Nat.le_trans h1 h2
  clear hnd hnn hL1 hAL
  go_loopg [12, 13] nd (fun g l i wr => ∃ (k : Nat) (ad : Option Addr) (c : Nat), k + g = nd ∧ i = .int .i64 (k : Int) ∧ l = .slice ad k c ∧ Hid (OwnI wr w3.heap.size 3 .i64 (.slice ad k c) (toI (L1.take k))) ∧ Hid (Below w3.heap.size w3 wr))
  case atStart => exact ⟨0, none, 0, by omega, rfl, rfl, Lib.hid (OwnI.nil _ _ _ _), Lib.hid (Below.refl _ _)⟩
  case round =>
    obtain ⟨k, ad, c, hk, rfl, rfl, OW, BW⟩ := hrel
    have c2 := (HC2.out _ BW.out).1
    cases gk with
    | zero =>
      obtain rfl : k = nd := by omega
      have hfull : L1.take k = L1 := List.take_of_length_le (by rw [HL1.out]; omega)
      rw [hfull] at OW
      clear hfull
      go_wp2_with fail
      have hlp : (L1 ++ (AL.take 0).flatten) = L1 := by simp
      rw [← hlp] at OW
      have hLn : k = (L1 ++ (AL.take 0).flatten).length := by rw [hlp, HL1.out]
      have HLN := Lib.hid hLn
      clear hlp hLn
      go_loopg [12, 14] nn (fun g l i wr => ∃ (k : Nat) (ad : Option Addr) (n c : Nat), k + g = nn ∧ i = .int .i64 (k : Int) ∧ l = .slice ad n c ∧ Hid (n = (L1 ++ (AL.take k).flatten).length) ∧ Hid (OwnI wr w3.heap.size 3 .i64 (.slice ad n c) (toI (L1 ++ (AL.take k).flatten))) ∧ Hid (Below w3.heap.size w3 wr))
      case atStart => exact ⟨0, ad, k, c, by omega, rfl, rfl, HLN, OW, BW⟩
      case round =>
        clear OW BW c2 HLN hk
        obtain ⟨k, ad, m, c, hk, rfl, rfl, HM, OW, BW⟩ := hrel
        have c3 := (HC2.out _ BW.out).2
        cases gk with
        | zero =>
          obtain rfl : k = nn := by omega
          have hfull : AL.take k = AL := List.take_of_length_le (by rw [HAL.out]; omega)
          rw [hfull] at OW HM
          clear hfull
          go_wp2_with fail
          rw [← HLL.out] at OW HM
          obtain ⟨w4, rfl⟩ : ∃ x, x = wr := ⟨_, rfl⟩
          have HCT : Hid (∀ w', Below w4.heap.size w4 w' → ∀ i, i < m → ∃ b o, ad = some ⟨b, o, none⟩ ∧ w'.cell? ⟨b, o + i, none⟩ = some (.int .i64 (((toldV X).getD i 0 : Nat) : Int))) := Lib.hid (fun w' hb i hi => by
            obtain ⟨b, o, e, hc⟩ := (OW.out.below hb).at.2.1 i (by rw [toI_length, ← HM.out]; exact hi)
            rw [toI_getD] at hc
            exact ⟨b, o, e, hc⟩)
          have HNE : Hid (∀ i, i < m → ∀ k, k < i → ¬ (((toldV X).getD i 0 : Nat) : Int) = (((toldV X).getD k 0 : Nat) : Int)) := Lib.hid (fun i hi k hk he => by
            have hi' : i < (toldV X).length := by rw [← HM.out]; exact hi
            have h1 := List.pairwise_iff_getElem.1 HTO.out.1 k i (by omega) hi' hk
            have h2 : (toldV X).getD i 0 = (toldV X).getD k 0 := by omega
            rw [List.getD, List.getD, List.getElem?_eq_getElem hi', List.getElem?_eq_getElem (by omega)] at h2
            exact h1 h2.symm)
          have HRG : Hid (∀ i, i < m → 1 ≤ (toldV X).getD i 0 ∧ (toldV X).getD i 0 < 32768) := Lib.hid (fun i hi => by
            have hi' : i < (toldV X).length := by rw [← HM.out]; exact hi
            refine HTO.out.2 _ ?_
            rw [List.getD, List.getElem?_eq_getElem hi']
            exact List.getElem_mem _)
          have hm32 : m ≤ 32768 := by rw [HM.out]; exact HL32.out
          have HC1 : Hid (∀ w', Below w3.heap.size w3 w' → w'.cell? ⟨u, 1, none⟩ = some (.slice oa X.of.length oc)) := Lib.hid (fun w' h => (HV.out.below h).c1)
          have HOC : Hid (∀ w', Below w3.heap.size w3 w' → ∀ i, i < X.of.length → ∃ b o, oa = some ⟨b, o, none⟩ ∧ w'.cell? ⟨b, o + i, none⟩ = some (.int .i64 ((X.of.getD i 0 : Nat) : Int))) := Lib.hid (fun w' hb i hi => by
            obtain ⟨b, o, e, hc⟩ := (HV.out.below hb).of.at.2.1 i (by rw [toI_length]; exact hi)
            rw [toI_getD] at hc
            exact ⟨b, o, e, hc⟩)
          have HOK : Hid (∀ i, i < X.of.length → wordOk (toldV X) (X.of.getD i 0) = true ∧ X.of.getD i 0 < 65536) := Lib.hid (fun i hi => by
            rw [List.getD, List.getElem?_eq_getElem hi]
            exact HOF.out _ (List.getElem_mem _))
          go_loopg [16] m (fun g i wq => ∃ (k : Nat), k + g = m ∧ i = .int .i64 (k : Int) ∧ Hid (Below w4.heap.size w4 wq))
          case atStart => exact ⟨0, by omega, rfl, Lib.hid (Below.refl _ _)⟩
          case round =>
            clear c3 hk
            obtain ⟨k, hk, rfl, BQ⟩ := hrel
            cases gk with
            | zero =>
              obtain rfl : k = m := by omega
              go_wp2_with fail
              have BW4 := Lib.hid (bstep BW.out BQ.out)
              have c1 := HC1.out _ BW4.out
              clear HNE HRG
              obtain ⟨no, hno⟩ : ∃ no, X.of.length = no := ⟨_, rfl⟩
              have HNO := Lib.hid hno
              rw [hno] at HC1 HOC HOK HLEN c1
              have hlen := HLEN.out
              clear hno
              obtain ⟨w5, rfl⟩ : ∃ x, x = wr := ⟨_, rfl⟩
              go_loopg [18] no (fun g i wq => ∃ (i0 : Nat), i0 + g = no ∧ i = .int .i64 (i0 : Int) ∧ Hid (Below w5.heap.size w5 wq))
              case atStart => exact ⟨0, by omega, rfl, Lib.hid (Below.refl _ _)⟩
              case round =>
                clear c1 hk
                obtain ⟨i0, hi0, rfl, BO⟩ := hrel
                have B6 := Lib.hid (bstep BW4.out BO.out)
                have c1 := HC1.out _ B6.out
                cases gk with
                | zero =>
                  obtain rfl : i0 = no := by omega
                  go_wp2_with fail
                  go_ret
                  exact ⟨by rw [← hlen]; simp, bstep B3.out B6.out⟩
                | succ g1 =>
                  have hin : i0 < no := by omega
                  obtain ⟨b3, o3, rfl, hc3⟩ := HOC.out _ B6.out i0 hin
                  obtain ⟨hok, hv⟩ := HOK.out i0 hin
                  generalize X.of.getD i0 0 = V at hok hv hc3
                  go_wp2_with fail
                  all_goals (
                    go_loopg [20, 21] k (fun g ev i wp => ∃ (j : Nat) (eb : Bool), j + g = k ∧ ev = .bool eb ∧ i = .int .i64 (j : Int) ∧ Hid (eb = decide (V % 32768 ≤ 1 ∨ V % 32768 ∈ (toldV X).take j)) ∧ Hid (Below w5.heap.size w5 wp))
                    case atStart =>
                      refine ⟨0, _, by omega, rfl, rfl, Lib.hid ?_, BO⟩
                      first | exact in_start _ V | exact (decide_eq_true (Or.inl (by omega))).symm
                    case round =>
                      clear BO hc3 c1
                      obtain ⟨j, eb, hj, rfl, rfl, HE, BP⟩ := hrel
                      cases gk with
                      | zero =>
                        obtain rfl : j = k := by omega
                        obtain rfl : eb = true := by
                          rw [HE.out, List.take_of_length_le (by rw [← HM.out]; exact Nat.le_refl _)]
                          exact hok
                        go_wp2_with fail
                        go_roundg g1
                        case measure => omega
                        case rel => exact ⟨i0 + 1, by omega, by go_num, BP⟩
                      | succ g2 =>
                        have hjm : j < k := by omega
                        obtain ⟨b4, o4, rfl, hc4⟩ := HCT.out _ (bstep BQ.out BP.out) j hjm
                        have HST := Lib.hid (in_step (toldV X) V j (by rw [← HM.out]; exact hjm))
                        generalize (toldV X).getD j 0 = y at HST hc4
                        rw [← HE.out] at HST
                        cases eb with
                        | true =>
                          go_wp2_with fail
                          go_roundg g2
                          case measure => omega
                          case rel => exact ⟨j + 1, true, by omega, rfl, by go_num, Lib.hid (by rw [HST.out]; rfl), BP⟩
                        | false =>
                          go_wp2_with fail
                          go_roundg g2
                          case measure => omega
                          case rel => exact ⟨j + 1, _, by omega, rfl, by go_num, Lib.hid (by rw [HST.out]; first | rfl | (rw [‹(V : Int) % 32768 = 0›]; rfl)), BP⟩)
            | succ g1 =>
              have hkm : k < m := by omega
              go_wp2_with fail
              go_loopg [17] k (fun g i wp => ∃ (j : Nat), j + g = k ∧ i = .int .i64 (j : Int) ∧ Hid (Below w4.heap.size w4 wp))
              case atStart => exact ⟨0, by omega, rfl, BQ⟩
              case round =>
                clear BQ
                obtain ⟨j, hj, rfl, BP⟩ := hrel
                obtain ⟨b, o, rfl, hc⟩ := HCT.out _ BP.out k hkm
                cases gk with
                | zero =>
                  obtain rfl : j = k := by omega
                  have hr := HRG.out j hkm
                  generalize (toldV X).getD j 0 = x at hc hr
                  have hx1 : decide ((x : Int) < 1) = false := decide_eq_false (by omega)
                  have hx2 : decide ((32767 : Int) < (x : Int)) = false := decide_eq_false (by omega)
                  go_wp2_with fail
                  go_roundg g1
                  case measure => omega
                  case rel => exact ⟨j + 1, by omega, by go_num, BP⟩
                | succ g2 =>
                  have hjk : j < k := by omega
                  obtain ⟨b', o', he, hc2⟩ := HCT.out _ BP.out j (by omega)
                  obtain ⟨rfl, rfl⟩ : b = b' ∧ o = o' := by simpa using he
                  have hne := HNE.out k hkm j hjk
                  generalize (toldV X).getD k 0 = x at hc hne
                  generalize (toldV X).getD j 0 = y at hc2 hne
                  have hd : decide ((x : Int) = (y : Int)) = false := decide_eq_false hne
                  go_wp2_with (go_quiet (fail))
                  go_roundg g2
                  case measure => omega
                  case rel => exact ⟨j + 1, by omega, by go_num, Lib.hid (below_drewN BP.out _)⟩
        | succ g1 =>
          have hkn : k < nn := by omega
          obtain ⟨b, o, aa, ac, rfl, hc, hA⟩ := HNA.out k hkn
          have hA := Lib.hid hA
          have hCC := Lib.hid hc
          replace hc := hc _ BW.out
          have hnext : (L1 ++ (AL.take (k + 1)).flatten) = L1 ++ (AL.take k).flatten ++ AL.getD k [] := by
            have hk1 : k < AL.length := by rw [HAL.out]; exact hkn
            rw [List.take_succ_eq_append_getElem hk1, List.flatten_append, ← List.append_assoc]
            simp [List.getD, hk1]
          have hle : (L1 ++ (AL.take k).flatten ++ AL.getD k []).length ≤ 32768 := by
            rw [← hnext]
            have h1 := HL32.out
            rw [HLL.out, List.length_append] at h1
            have h2 : AL.flatten = (AL.take (k + 1)).flatten ++ (AL.drop (k + 1)).flatten := by rw [← List.flatten_append, List.take_append_drop]
            rw [h2, List.length_append] at h1
            rw [List.length_append]
            omega
          have HNX := Lib.hid hnext
          have HLE := Lib.hid hle
          clear hnext hle
          generalize AL.getD k [] = A at *
          obtain ⟨P, hP⟩ : ∃ P, L1 ++ (AL.take k).flatten = P := ⟨_, rfl⟩
          rw [hP] at OW HM HNX HLE
          clear hP
          obtain ⟨q, hq⟩ : ∃ q, A.length = q := ⟨_, rfl⟩
          rw [hq] at hc hCC
          have HQ := Lib.hid hq
          have HMQ : Hid (m + q ≤ 32768) := Lib.hid (by
            have h1 := HLE.out
            rw [List.length_append, hq, ← HM.out] at h1
            exact h1)
          have hmq := HMQ.out
          clear hq HLE
          go_wp2_with fail
          go_loopg [12, 15] q (fun g l i wr2 => ∃ (j : Nat) (ad : Option Addr) (n c : Nat), j + g = q ∧ i = .int .i64 (j : Int) ∧ l = .slice ad n c ∧ Hid (n = m + j) ∧ Hid (OwnI wr2 w3.heap.size 3 .i64 (.slice ad n c) (toI (P ++ A.take j))) ∧ Hid (Below w3.heap.size w3 wr2))
          case atStart => exact ⟨0, ad, m, c, by omega, rfl, rfl, Lib.hid (by omega), Lib.hid (by simpa using OW.out), BW⟩
          case round =>
            clear OW c3 hc
            obtain ⟨j, ad, n, c, hj, rfl, rfl, HN, OW, BW2⟩ := hrel
            have c3 := (HC2.out _ BW2.out).2
            have hc := hCC.out _ BW2.out
            cases gk with
            | zero =>
              obtain rfl : j = q := by omega
              have hfull : A.take j = A := List.take_of_length_le (by rw [HQ.out]; omega)
              rw [hfull, ← HNX.out] at OW
              clear hfull
              go_wp2_with fail
              go_roundg g1
              case measure => omega
              case rel => exact ⟨k + 1, ad, n, c, by omega, by go_num, rfl, Lib.hid (by rw [HNX.out, List.length_append, HQ.out, HN.out, HM.out]), OW, BW2⟩
            | succ g2 =>
              have hjq : j < q := by omega
              obtain ⟨b2, o2, rfl, hc2⟩ := hA.out _ BW2.out j (by rw [HQ.out]; exact hjq)
              have hT : toI (P ++ A.take j) ++ [((A.getD j 0 : Nat) : Int)] = toI (P ++ A.take (j + 1)) := by
                have hk1 : j < A.length := by rw [HQ.out]; exact hjq
                rw [List.take_succ_eq_append_getElem hk1, ← List.append_assoc, toI_append (P ++ A.take j)]
                congr 1
                simp [toI, List.getD, hk1]
              have HTT := Lib.hid hT
              have hlen : (toI (P ++ A.take j)).length = n := by rw [toI_length, List.length_append, List.length_take, HQ.out, HN.out, ← HM.out]; omega
              have HLE := Lib.hid hlen
              have hn : n = m + j := HN.out
              generalize A.getD j 0 = x at *
              clear hT hlen
              go_wp2_with (at_builtin; go_loud (refine wpList_push rfl (.tmp 91) (.tmp 102) sliceInt rfl w3.heap.size w3 (.slice ad n c) (toI (P ++ A.take j)) n (x : Int) rfl (by rfl) HLE.out OW.out (by unfold maxLen; omega) (by omega) BW2.out BW2.out.size ?_); intro ad5 c5 w6 hown5 hbe5; have O5 := Lib.hid hown5; have HB5 := Lib.hid hbe5; clear hown5 hbe5)
              go_roundg g2
              case measure => omega
              case rel => exact ⟨j + 1, ad5, n + 1, c5, by omega, by go_num, by go_num, Lib.hid (by rw [HN.out]; omega), Lib.hid (by rw [← HTT.out]; exact O5.out), HB5⟩
    | succ g1 =>
      have hkn : k < nd := by omega
      obtain ⟨b, o, rfl, hc⟩ := HDA.out _ BW.out k hkn
      have hT : toI (L1.take k) ++ [((L1.getD k 0 : Nat) : Int)] = toI (L1.take (k + 1)) := by
        have hk1 : k < L1.length := by rw [HL1.out]; exact hkn
        rw [List.take_succ_eq_append_getElem hk1, toI_append]
        simp [toI, List.getD, hk1]
      have HTT := Lib.hid hT
      have hlen : (toI (L1.take k)).length = k := by rw [toI_length, List.length_take, HL1.out]; omega
      have HLE := Lib.hid hlen
      generalize L1.getD k 0 = x at *
      clear hT hlen
      go_wp2_with (at_builtin; go_loud (refine wpList_push rfl (.tmp 64) (.tmp 71) sliceInt rfl w3.heap.size w3 (.slice ad k c) (toI (L1.take k)) k (x : Int) rfl (by rfl) HLE.out OW.out (by unfold maxLen; omega) (by omega) BW.out BW.out.size ?_); intro ad5 c5 w6 hown5 hbe5; have O5 := Lib.hid hown5; have HB5 := Lib.hid hbe5; clear hown5 hbe5)
      go_roundg g1
      case measure => omega
      case rel => exact ⟨k + 1, ad5, c5, by omega, by go_num, rfl, Lib.hid (by rw [← HTT.out]; exact O5.out), HB5⟩
end Go.Proofs.Ytldjjolpjekpbaa
