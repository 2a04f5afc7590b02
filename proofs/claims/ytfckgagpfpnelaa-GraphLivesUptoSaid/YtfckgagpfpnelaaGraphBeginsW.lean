/- Layer 16: the walk of the statement on what is begun. -/
import Derived.Test.YtfckgagpfpnelaaGraphPlace
namespace Go.Proofs.Ytfckgagpfpnelaa
open Go.RowKit
set_option linter.unusedVariables false
set_option linter.unusedSimpArgs false

set_option maxRecDepth 100000 in
set_option maxHeartbeats 8000000 in
theorem begins_at (w : World) (da : Option Addr) (dc : Nat) (deps : List (List Int)) (ra : Option Addr) (rc : Nat) (roots : List Int) (hb : deps.length + tot deps ≤ 1048576) (hd : DRow w da deps) (hr : Row .i64 w ra roots) (hx : I64s roots) (hxl : roots.length ≤ 140737488351232) :
    Calls Try.prog 5 #[.slice da deps.length dc, .slice ra roots.length rc] w fun e w' => e = .returned (.bool true) ∧ Below w.heap.size w w' := by
  have HU := Lib.hid (up_true w)
  have HD := Lib.hid hd
  have HR := Lib.hid hr
  have HX := Lib.hid hx
  have hdn : deps.length ≤ 1048576 := by omega
  have HSM := Lib.hid (fun (w1 : World) (h : Below w.heap.size w w1) => small_any w1 da dc deps hb (hd.below h))
  have H1 := Lib.hid (fun (w1 : World) (h : Below w.heap.size w w1) => scope_any w1 da dc deps ra rc roots hdn (hd.below h) (hr.below h) hx hxl)
  have H2 := Lib.hid (fun (w1 : World) (h : Below w.heap.size w w1) => begin_any w1 da dc deps ra rc roots hdn (hd.below h) (hr.below h) hx hxl)
  have H3 := Lib.hid (fun (w1 : World) (h : Below w.heap.size w w1) (ca : Option Addr) (cc : Nat) (counts : List Int) => live_any w1 da dc deps ca cc counts hdn (hd.below h))
  have H4 := Lib.hid (fun (w1 : World) (h : Below w.heap.size w w1) => loop_any w1 da dc deps hdn (hd.below h))
  have HMA : Hid (∀ x, x ∈ scopeF deps roots ↔ x ∈ scopeF deps (asked (cnt deps.length roots))) := Lib.hid (fun x => by rw [mem_scopeF, mem_counted])
  have HMB : Hid (∀ x, x ∈ beginF deps roots ↔ x ∈ scopeF deps (asked (cnt deps.length roots))) := Lib.hid (fun x => by rw [mem_beginF, mem_counted])
  have HGA := Lib.hid (scopeF_good deps roots)
  have HGB := Lib.hid (beginF_good deps roots)
  have HGS := Lib.hid (scopeF_good deps (asked (cnt deps.length roots)))
  have HAH := Lib.hid (fun h i hi j hj => @place_ahead deps roots h i hi j hj)
  obtain ⟨n, hnn⟩ : ∃ n, deps.length = n := ⟨_, rfl⟩
  obtain ⟨m, hmm⟩ : ∃ m, roots.length = m := ⟨_, rfl⟩
  have HN := Lib.hid hnn
  have HM := Lib.hid hmm
  rw [hnn] at hdn HSM H1 H2 H3 H4 HMA HMB HGA HGB HGS ⊢
  rw [hmm] at hxl H1 H2 ⊢
  obtain ⟨S, hS⟩ : ∃ S, scopeF deps (asked (cnt n roots)) = S := ⟨_, rfl⟩
  rw [hS] at HMA HMB HGS
  have HS := Lib.hid hS
  generalize scopeF deps roots = A at *
  generalize beginF deps roots = Bg at *
  generalize loopB deps = ring at *
  have HLA := Lib.hid (same_len HGA.out HGS.out HMA.out)
  have HLB := Lib.hid (same_len HGB.out HGS.out HMB.out)
  have hal := nodup_le HGS.out
  clear hd hr hx hnn hmm hb hS
  go_enter Try.func5, Try.ntmps5
  go_wp2_with fail
  refine HU.out.mono ?_
  rintro e w1 ⟨rfl, hb1⟩
  have B1 := Lib.hid hb1; clear hb1
  go_wp2_with fail
  refine (HSM.out w1 B1.out).mono ?_
  rintro e w2 ⟨r, rfl, rfl⟩
  cases r with
  | false =>
    go_wp2
    go_ret
    exact ⟨rfl, B1.out⟩
  | true =>
    go_wp2_with fail
    refine (H1.out _ B1.out).mono ?_
    rintro e w3 ⟨a3, c3, rfl, ho3, hb3⟩
    have O3 := Lib.hid ho3; have B3 := Lib.hid (bstep B1.out hb3); clear ho3 hb3
    go_wp2_with fail
    refine (H2.out _ B3.out).mono ?_
    rintro e w4 ⟨a4, c4, rfl, ho4, hb4⟩
    have O4 := Lib.hid ho4; have O34 := Lib.hid (O3.out.below hb4); have B4 := Lib.hid (bstep B3.out hb4); clear ho4 hb4 O3
    rw [HLA.out] at O34
    rw [HLB.out] at O4
    rw [HLA.out, HLB.out]
    go_wp2_with (at_make; go_loud (refine wpList_make_ints rfl (.tmp 30) (.tmp 30) slice64 rfl w4.heap.size n .i64 .i64 (n : Int) (n : Int) rfl rfl rfl rfl (by omega) (by unfold maxLen; omega) (Nat.le_refl _) ?_); intro cg w5 ho5 hg5 ha5; have O5 := Lib.hid ho5; have A5 := Lib.hid (ha5.toBelow (Nat.le_refl _) (fun _ h => h.elim)); clear ho5 hg5 ha5)
    go_loopg [9] m (fun g i wr => ∃ k : Nat, k + g = m ∧ i = .int .i64 (k : Int) ∧ Hid (OwnI wr w4.heap.size 3 .i64 (.slice (some ⟨cg, 0, none⟩) n n) (cnt n (roots.take k))) ∧ Hid (Below w4.heap.size w4 wr))
    case atStart => exact ⟨0, by omega, rfl, by rw [List.take_zero, cnt_nil]; exact O5, A5⟩
    case round =>
      obtain ⟨k, hk, rfl, OC, BW⟩ := hrel
      cases gk with
      | succ g =>
        have hlk : k < m := by omega
        obtain ⟨rb, ro, rfl, hrc⟩ := (HR.out.below (bstep B4.out BW.out)) k (by rw [HM.out]; exact hlk)
        have htk : roots.take (k + 1) = roots.take k ++ [roots.getD k 0] := by rw [List.take_succ_eq_append_getElem (by rw [HM.out]; exact hlk), getD_at (by rw [HM.out]; exact hlk)]
        have HTK := Lib.hid htk
        clear htk
        generalize roots.getD k 0 = x at *
        cases ho : isObj n x with
        | false =>
          have HC2 := Lib.hid (cnt_pass (roots.take k) ho)
          rw [← HTK.out] at HC2
          have hcase : x < 0 ∨ (0 ≤ x ∧ (n : Int) ≤ x) := by
            unfold isObj at ho
            by_cases h : 0 ≤ x
            · right
              refine ⟨h, ?_⟩
              simp [h] at ho
              omega
            · left; omega
          clear ho
          rcases hcase with h | ⟨h, h'⟩
          · go_wp2
            go_roundg g
            case measure => omega
            case rel => exact ⟨k + 1, by omega, by go_num, by rw [HC2.out]; exact OC, BW⟩
          · go_wp2
            go_roundg g
            case measure => omega
            case rel => exact ⟨k + 1, by omega, by go_num, by rw [HC2.out]; exact OC, BW⟩
        | true =>
          obtain ⟨h0, hxn⟩ := isObj_iff.1 ho
          obtain ⟨y, rfl⟩ := Int.eq_ofNat_of_zero_le h0
          rw [Int.toNat_natCast] at hxn
          have hcc := OC.out.get y _ (cnt_at _ hxn)
          have hcf := OC.out.free y
          have OP := Lib.hid (OC.out.put (cnt_length _ _) y 1)
          rw [cnt_set _ hxn, ← HTK.out] at OP
          have hyn : (y : Int) < (n : Int) := by omega
          generalize (if (y : Int) ∈ roots.take k then (1 : Int) else 0) = old at *
          clear ho h0
          go_wp2
          go_roundg g
          case measure => omega
          case rel => exact ⟨k + 1, by omega, by go_num, OP, Lib.hid (BW.out.setCell OC.out.blockGe.1 _)⟩
      | zero =>
        have hke : k = m := by omega
        subst hke
        have HTA : Hid (roots.take k = roots) := Lib.hid (List.take_of_length_le (by rw [HM.out]; omega))
        rw [HTA.out] at OC
        have BR := Lib.hid (bstep B4.out BW.out)
        have HL := H3.out wr BR.out (some ⟨cg, 0, none⟩) n (cnt n roots) (by have := OC.out.at.2.1; exact this) (cnt_i64 _ _) (by rw [cnt_length]; exact hdn)
        rw [HS.out, cnt_length] at HL
        have HLH := Lib.hid HL
        have O3W := Lib.hid (O34.out.below BW.out)
        have O4W := Lib.hid (O4.out.below BW.out)
        clear HL OC H1 H2 H3 HU HSM O34 O4 BW
        go_wp2_with fail
        refine HLH.out.mono ?_
        rintro e w6 ⟨g6, rfl, ho6, hb6⟩
        have O6 := Lib.hid ho6; have O36 := Lib.hid (O3W.out.below hb6); have O46 := Lib.hid (O4W.out.below hb6); have B6 := Lib.hid (bstep BR.out hb6)
        clear ho6 hb6 HLH O3W O4W BR
        go_wp2_with fail
        refine (H4.out _ B6.out).mono ?_
        rintro e w7 ⟨rfl, hb7⟩
        have O7 := Lib.hid (O6.out.below hb7); have O37 := Lib.hid (O36.out.below hb7); have O47 := Lib.hid (O46.out.below hb7); have B7 := Lib.hid (bstep B6.out hb7)
        clear hb7 H4 O6 O36 O46
        have PA := Lib.hid (fun (x : Int) => place_any a3 c3 S.length A x w7 HLA.out O37.out.at.2.1 (by omega))
        have PB := Lib.hid (fun (x : Int) => place_any a4 c4 S.length Bg x w7 HLB.out O47.out.at.2.1 (by omega))
        have D7 := Lib.hid (HD.out.below B7.out)
        have HLL := Lib.hid (liveTo_all HGS.out)
        have HLE := Lib.hid (liveTo_le S)
        clear O37 O47 O5 A5 B1 B3 B4 B6 HGA HGB
        go_wp2
        go_loopg [12, 13] n (fun g c i wr => ∃ k : Nat, k + g = n ∧ i = .int .i64 (k : Int) ∧ c = .int .i64 (liveTo S k : Int) ∧ w7 = wr)
        case atStart => exact ⟨0, by omega, rfl, rfl, rfl⟩
        case round =>
          obtain ⟨j, hj, rfl, rfl, rfl⟩ := hrel
          cases gk with
          | zero =>
            have hje : j = n := by omega
            subst hje
            rw [HLL.out]
            go_wp2
            go_ret
            exact ⟨rfl, B7.out⟩
          | succ g =>
            have hlj : j < n := by omega
            have hmk := O7.out.cell hlj
            have hle := HLE.out j
            go_wp2_with fail
            refine (PA.out (j : Int)).mono ?_
            rintro e w8 ⟨rfl, rfl⟩
            go_wp2_with fail
            refine (PB.out (j : Int)).mono ?_
            rintro e w8 ⟨rfl, rfl⟩
            by_cases hjs : j ∈ S
            · have hpa := (placeF_yes ((HMA.out j).2 hjs)).1
              have hpb := (placeF_yes ((HMB.out j).2 hjs)).1
              have HO := Lib.hid (fun (h : ring = false) => HAH.out h j ((HMB.out j).2 hjs))
              have HLS := Lib.hid (liveTo_yes hjs)
              rw [decide_eq_true hjs] at hmk
              generalize placeF A (j : Int) = pa at *
              generalize placeF Bg (j : Int) = pb at *
              generalize liveTo S j = c at *
              obtain ⟨b2, o2, ai, ci, rfl, hlt2, hcd, hri, hxi, hli⟩ := D7.out j (by rw [HN.out]; exact hlj)
              have RI := Lib.hid hri
              generalize deps.getD j [] = xs at *
              clear hjs hri hxi
              go_wp2
              go_loopg [16] xs.length (fun g i wr => ∃ k : Nat, k + g = xs.length ∧ i = .int .i64 (k : Int) ∧ w7 = wr)
              case atStart => exact ⟨0, by omega, rfl, rfl⟩
              case round =>
                obtain ⟨q, hq, rfl, rfl⟩ := hrel
                cases gk with
                | zero =>
                  have hqe : q = xs.length := by omega
                  subst hqe
                  go_wp2
                  go_roundg g
                  case measure => omega
                  case rel => exact ⟨j + 1, by omega, by go_num, by rw [HLS.out]; go_num, rfl⟩
                | succ g2 =>
                  have hlq : q < xs.length := by omega
                  obtain ⟨b3, o3, rfl, hc3⟩ := RI.out q hlq
                  have HOQ := Lib.hid (fun (h : ring = false) => HO.out h q hlq)
                  generalize xs.getD q 0 = z at *
                  go_wp2_with fail
                  refine (PB.out z).mono ?_
                  rintro e w8 ⟨rfl, rfl⟩
                  cases ring with
                  | true =>
                    go_wp2
                    go_roundg g2
                    case measure => omega
                    case rel => exact ⟨q + 1, by omega, by go_num, rfl⟩
                  | false =>
                    have hlt := HOQ.out rfl
                    generalize placeF Bg z = pz at *
                    go_wp2
                    go_roundg g2
                    case measure => omega
                    case rel => exact ⟨q + 1, by omega, by go_num, rfl⟩
            · have hpa : placeF A (j : Int) = -1 := placeF_no (fun h => hjs ((HMA.out j).1 h))
              have hpb : placeF Bg (j : Int) = -1 := placeF_no (fun h => hjs ((HMB.out j).1 h))
              have HLS := Lib.hid (liveTo_no hjs)
              rw [decide_eq_false hjs] at hmk
              rw [hpa, hpb]
              generalize liveTo S j = c at *
              clear hpa hpb hjs
              go_wp2
              go_roundg g
              case measure => omega
              case rel => exact ⟨j + 1, by omega, by go_num, by rw [HLS.out], rfl⟩
end Go.Proofs.Ytfckgagpfpnelaa
