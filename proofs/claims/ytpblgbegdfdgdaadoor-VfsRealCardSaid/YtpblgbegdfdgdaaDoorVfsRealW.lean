/- Layer 3: the law VfsReal. -/
import Derived.Test.YtpblgbegdfdgdaaDoorVfsShown
import Derived.Test.YtpblgbegdfdgdaaDoorVfsRealM
import Derived.Deep.DeepCutAuto
import Derived.BigQuiet
namespace Go.Proofs.YtpblgbegdfdgdaaDoor
open Go.RowKit
set_option linter.unusedVariables false
set_option linter.unusedSimpArgs false

set_option maxRecDepth 100000 in
set_option maxHeartbeats 16000000 in
theorem vfsReal_at (a : Option Addr) (n cap : Nat) (L : List Nd) (D : Nat → List Nat) (pa : Option Addr) (pn pc : Nat) (T : List ByteArray) (w : World) (hr : NdRow w a L) (hn : L.length = n) (hnl : n ≤ 140737488351232) (hD : ∀ i, (hi : i < L.length) → NdOk w L[i] (D i)) (hT : TRow w pa T) (hpn : T.length = pn) (hpl : pn ≤ 140737488351232) (hts : ∀ t ∈ T, t.size ≤ 140737488351232) (hg : ErrType w) :
    Calls Tryd.prog 3 #[.slice a n cap, .slice pa pn pc] w fun e w' => e = .returned (.bool true) ∧ Below w.heap.size w w' := by
  have HNL := Lib.hid hnl
  have HSH := Lib.hid (shown_true w hg)
  have HLN := Lib.hid hn
  have HPN := Lib.hid hpn
  have HR := Lib.hid hr
  have HDD := Lib.hid hD
  have HTR := Lib.hid hT
  have HTS := Lib.hid hts
  have HPL := Lib.hid hpl
  have HNW : Hid (∀ wx, Below w.heap.size w wx → Calls Tryd.prog 5 #[.slice a n cap] wx fun e w' => NewPost L D wx e w' ∧ Below wx.heap.size wx w') := Lib.hid (fun wx hb => new_any a n cap L D wx (hr.below hb) hn hnl (fun i hi => (hD i hi).below hb))
  have HDL : Hid (∀ i, (hi : i < L.length) → (D i).length = (L[i]'hi).dn ∧ (L[i]'hi).dn ≤ 140737488355328) := Lib.hid (fun i hi => ⟨(hD i hi).len, (hD i hi).most⟩)
  clear hr hn hnl hD hT hpn hpl hts hg
  go_enter Tryd.func3, Tryd.ntmps3
  go_wp2_with fail
  refine HSH.out.mono ?_
  rintro e w1 ⟨rfl, hb1⟩
  have B1 := Lib.hid hb1
  clear hb1
  go_wp2_with fail
  refine (HNW.out w1 B1.out).mono ?_
  rintro e w2 ⟨hp, hb2⟩
  have B2 := Lib.hid (bstep B1.out hb2)
  clear hb2
  rcases hp with ⟨tb, gm, es, rfl, hlen, hla, hat, hsh⟩ | ⟨es, sp, hk, rfl, hla, hne, -, -⟩ | ⟨hk, rfl⟩
  rotate_left 1
  · clear hla hne
    go_wp2_with fail
    go_ret
    exact ⟨rfl, B2.out⟩
  · have he2 : errV ((2 : Nat) : Int) = .iface 46 (.int .i64 2) := rfl
    rw [he2]
    go_wp2_with fail
    go_ret
    exact ⟨rfl, B2.out⟩
  have HTI := Lib.hid hla.treeIn
  have HTA := Lib.hid hat
  have HSA := Lib.hid (shAt_in hla hsh HDL.out)
  have HNO : Hid (∀ i, (hi : i < L.length) → (0 ≤ (L[i]'hi).kind ∧ (L[i]'hi).kind ≤ 3) ∧ (L[i]'hi).path.size ≤ 4096 ∧ ((L[i]'hi).kind = 0 → openF (treeE L es) (sharesIn w2 D) (L[i]'hi).path = .ok ((L[i]'hi).path, (i : Int), (L[i]'hi).su, D i)) ∧ ((L[i]'hi).kind = 1 → openF (treeE L es) (sharesIn w2 D) (L[i]'hi).path = .error 16) ∧ ((L[i]'hi).kind = 3 → ∃ v, openF (treeE L es) (sharesIn w2 D) (L[i]'hi).path = .ok v)) := Lib.hid (fun i hi => node_open hla hlen hsh hi)
  generalize treeE L es = F at *
  generalize sharesIn w2 D = S at *
  have HML : Hid (n ≤ 1000000 ∨ True) := Lib.hid (.inr trivial)
  have HOP : Hid (∀ (q : ByteArray) wx, q.size ≤ 140737488351232 → Below w2.heap.size w2 wx → Calls Tryd.prog 6 #[.pointer (some ⟨tb, 0, none⟩), .string q] wx fun e w' => OpenPost wx e w' (openF F S q) ∧ Below wx.heap.size wx w') := Lib.hid (fun q wx hq hb => open_any tb gm _ F S q wx (HTA.out.below hb) (HSA.out.below hb) HTI.out (by omega))
  have HRE : Hid (∀ (q : ByteArray) wx, q.size ≤ 140737488351232 → Below w2.heap.size w2 wx → Calls Tryd.prog 7 #[.pointer (some ⟨tb, 0, none⟩), .string q] wx fun e w' => FolPost e (folF F q) ∧ Below wx.heap.size wx w') := Lib.hid (fun q wx hq hb => real_any tb gm _ F q wx (HTA.out.below hb) HTI.out.ok (by omega))
  have HNM : Hid (n ≤ 140737488351232) := Lib.hid HNL.out
  clear hlen hla hat hsh HNW HSH HDL
  go_wp2_with fail
  go_loopg [8] n (fun g1 iv wr => ∃ k : Nat, k + g1 = n ∧ iv = .int .i64 (k : Int) ∧ Hid (Below w2.heap.size w2 wr))
  case atStart => exact ⟨0, by omega, rfl, Lib.hid (Below.refl _ _)⟩
  case round =>
    obtain ⟨k, hk, rfl, HB⟩ := hrel
    have HKK := Lib.hid hk
    cases gk with
    | zero =>
      have hkn : k = n := by omega
      subst hkn
      clear hk
      go_wp2_with fail
      go_loopg [11] pn (fun g1 iv wr => ∃ i : Nat, i + g1 = pn ∧ iv = .int .i64 (i : Int) ∧ Hid (Below w2.heap.size w2 wr))
      case atStart => exact ⟨0, by omega, rfl, HB⟩
      case round =>
        clear HB HKK
        obtain ⟨i, hi, rfl, HB⟩ := hrel
        have HKK := Lib.hid hi
        cases gk with
        | zero =>
          have hin : i = pn := by omega
          subst hin
          clear hi
          go_wp2_with fail
          go_ret
          exact ⟨rfl, bstep B2.out HB.out⟩
        | succ g2 =>
          have hlt : i < pn := by omega
          have hiT : i < T.length := by rw [HPN.out]; exact hlt
          obtain ⟨b1, o1, rfl, hbl, p0⟩ := (HTR.out.below (bstep B2.out HB.out)) i hiT
          obtain ⟨t, ht⟩ : ∃ t, T[i]'hiT = t := ⟨_, rfl⟩
          have hg : T.getD i .empty = t := by rw [← ht]; simp [List.getD, hiT]
          rw [hg] at p0
          have hts : t.size ≤ 140737488351232 := by rw [← ht]; exact HTS.out _ (List.getElem_mem hiT)
          have HTZ := Lib.hid hts
          have HP0 := Lib.hid p0
          have HBL := Lib.hid hbl
          have HRT := Lib.hid (HRE.out t wr hts HB.out)
          obtain ⟨R, hR⟩ : ∃ R, folF F t = R := ⟨_, rfl⟩
          have HFR := Lib.hid hR
          rw [hR] at HRT
          clear hi hiT ht hg hts hbl hR
          go_wp2_with fail
          refine HRT.out.mono ?_
          rintro e w4 ⟨hpost, hb4⟩
          have B4 : Hid (Below w2.heap.size w2 w4) := Lib.hid (bstep HB.out hb4)
          have p4 : Hid (w4.cell? ⟨b1, o1 + i, none⟩ = some (.string t)) := Lib.hid ((hb4.cell (p := ⟨b1, o1 + i, none⟩) HBL.out).trans HP0.out)
          have HBL4 : Hid (b1 < w4.heap.size) := Lib.hid (Nat.lt_of_lt_of_le HBL.out hb4.size)
          clear hb4 p0
          cases R with
          | error en =>
            have he := folF_err HTI.out.ok HFR.out
            obtain rfl : e = _ := hpost
            rw [errV_yes (by omega)]
            clear he
            go_wp2_with fail
            go_roundg g2
            case measure => have := HKK.out; omega
            case rel => exact ⟨i + 1, by have := HKK.out; omega, (by have := HKK.out; have := HPL.out; rw [IntWalk.wrap64_in _ ⟨by omega, by omega⟩]; rfl), B4⟩
          | ok p =>
            obtain rfl : e = _ := hpost
            obtain ⟨s1, s2, s3, s4⟩ := real_self HTI.out S HFR.out
            have HR2 := HRE.out p w4 (by omega) B4.out
            rw [s1] at HR2
            have HRP := Lib.hid HR2
            have HOT : Hid (∀ wx, Below w2.heap.size w2 wx → Calls Tryd.prog 6 #[.pointer (some ⟨tb, 0, none⟩), .string t] wx fun e w' => OpenPost wx e w' (openF F S t) ∧ Below wx.heap.size wx w') := Lib.hid (fun wx hb => HOP.out t wx HTZ.out hb)
            have HOQ : Hid (∀ wx, Below w2.heap.size w2 wx → Calls Tryd.prog 6 #[.pointer (some ⟨tb, 0, none⟩), .string p] wx fun e w' => OpenPost wx e w' (openF F S t) ∧ Below wx.heap.size wx w') := Lib.hid (fun wx hb => by
              have := HOP.out p wx (by omega) hb
              rw [s3] at this
              exact this)
            have HS4 := Lib.hid s4
            generalize openF F S t = V at *
            clear s1 s2 s3 s4 HR2
            go_wp2_with fail
            refine HRP.out.mono ?_
            rintro e w5 ⟨hpost, hb5⟩
            obtain rfl : e = _ := hpost
            have B5 : Hid (Below w2.heap.size w2 w5) := Lib.hid (bstep B4.out hb5)
            have p5 : w5.cell? ⟨b1, o1 + i, none⟩ = some (.string t) := (hb5.cell (p := ⟨b1, o1 + i, none⟩) HBL4.out).trans p4.out
            clear hb5
            go_wp2_with fail
            refine (HOT.out w5 B5.out).mono ?_
            rintro e w6 ⟨hpost, hb6⟩
            rcases HS4.out with hv | ⟨I, su, bs, hv⟩
            · subst hv
              obtain rfl : e = _ := hpost
              rw [errV_yes (by omega)]
              obtain ⟨fb, hfb⟩ : ∃ fb, w6.heap.size = fb := ⟨_, rfl⟩
              obtain ⟨w7, hw7⟩ : ∃ w7, w6.alloc (.cells #[.string ⟨#[]⟩, .int .i64 0, .slice none 0 0, .bool false] 32) = w7 := ⟨_, rfl⟩
              have HW7 := Lib.hid hw7
              have B7 : Hid (Below w2.heap.size w2 w7) := Lib.hid (bstep B5.out (by rw [← hw7]; exact hb6.alloc hb6.size _))
              have Z7 : Hid (w7.heap[fb]? = some (.cells #[.string ⟨#[]⟩, .int .i64 0, .slice none 0 0, .bool false] 32)) := Lib.hid (by rw [← hw7, ← hfb]; exact heap_alloc_new _ _)
              clear hw7 hb6 p5
              go_upto_region 22 with fail
              rw [HW7.out]
              try rw [hfb]
              clear hfb
              go_wp2_with fail
              refine (HOQ.out w7 B7.out).mono ?_
              rintro e w8 ⟨hpost, hb8⟩
              obtain rfl : e = _ := hpost
              rw [errV_yes (by omega)]
              obtain ⟨gb, hgb⟩ : ∃ gb, w8.heap.size = gb := ⟨_, rfl⟩
              obtain ⟨w9, hw9⟩ : ∃ w9, w8.alloc (.cells #[.string ⟨#[]⟩, .int .i64 0, .slice none 0 0, .bool false] 32) = w9 := ⟨_, rfl⟩
              have HW9 := Lib.hid hw9
              have b9 : Hid (Below w7.heap.size w7 w9) := Lib.hid (by rw [← hw9]; exact hb8.alloc hb8.size _)
              have Z9 : Hid (w9.heap[gb]? = some (.cells #[.string ⟨#[]⟩, .int .i64 0, .slice none 0 0, .bool false] 32)) := Lib.hid (by rw [← hw9, ← hgb]; exact heap_alloc_new _ _)
              have z0 : w9.cell? ⟨fb, 0, none⟩ = some (.string ⟨#[]⟩) := by rw [cell_of_row _ _ 0 _ _ _ ((b9.out.block _ (lt_of_block Z7.out)).trans Z7.out)]; rfl
              have z1 : w9.cell? ⟨fb, 1, none⟩ = some (.int .i64 0) := by rw [cell_of_row _ _ 1 _ _ _ ((b9.out.block _ (lt_of_block Z7.out)).trans Z7.out)]; rfl
              have y0 : w9.cell? ⟨gb, 0, none⟩ = some (.string ⟨#[]⟩) := by rw [cell_of_row _ _ 0 _ _ _ Z9.out]; rfl
              have y1 : w9.cell? ⟨gb, 1, none⟩ = some (.int .i64 0) := by rw [cell_of_row _ _ 1 _ _ _ Z9.out]; rfl
              have B9 : Hid (Below w2.heap.size w2 w9) := Lib.hid (bstep B7.out b9.out)
              have HCO : Hid (∀ wx, Calls Tryd.prog 8 #[.iface 46 (.int .i64 ((16 : Nat) : Int))] wx fun e w' => e = .returned (.int .i64 ((16 : Nat) : Int)) ∧ wx = w') := Lib.hid (fun wx => by have := code_any 16 wx (by omega) (by omega); exact this)
              clear hw9 hb8
              go_upto_region 23 with fail
              rw [HW9.out]
              try rw [hgb]
              clear hgb
              go_wp2_with fail
              refine (HCO.out w9).mono ?_
              rintro e w13 ⟨rfl, rfl⟩
              go_wp2_with fail
              refine (HCO.out w9).mono ?_
              rintro e w13 ⟨rfl, rfl⟩
              go_wp2_with fail
              go_roundg g2
              case measure => have := HKK.out; omega
              case rel => exact ⟨i + 1, by have := HKK.out; omega, (by have := HKK.out; have := HPL.out; rw [IntWalk.wrap64_in _ ⟨by omega, by omega⟩]; rfl), B9⟩
            · subst hv
              obtain ⟨fa, fc, rfl, -⟩ := hpost
              obtain ⟨fm, hfm⟩ : ∃ fm, bs.length = fm := ⟨_, rfl⟩
              rw [hfm]
              clear hfm
              obtain ⟨fb, hfb⟩ : ∃ fb, w6.heap.size = fb := ⟨_, rfl⟩
              obtain ⟨w7, hw7⟩ : ∃ w7, w6.alloc (.cells #[.string p, .int .i64 I, .slice fa fm fc, .bool su] 32) = w7 := ⟨_, rfl⟩
              have HW7 := Lib.hid hw7
              have B7 : Hid (Below w2.heap.size w2 w7) := Lib.hid (bstep B5.out (by rw [← hw7]; exact hb6.alloc hb6.size _))
              have Z7 : Hid (w7.heap[fb]? = some (.cells #[.string p, .int .i64 I, .slice fa fm fc, .bool su] 32)) := Lib.hid (by rw [← hw7, ← hfb]; exact heap_alloc_new _ _)
              clear hw7 hb6 p5
              go_upto_region 22 with fail
              rw [HW7.out]
              try rw [hfb]
              clear hfb
              go_wp2_with fail
              refine (HOQ.out w7 B7.out).mono ?_
              rintro e w8 ⟨hpost, hb8⟩
              obtain ⟨ga, gc, rfl, -⟩ := hpost
              obtain ⟨gm2, hgm2⟩ : ∃ gm2, bs.length = gm2 := ⟨_, rfl⟩
              rw [hgm2]
              clear hgm2
              obtain ⟨gb, hgb⟩ : ∃ gb, w8.heap.size = gb := ⟨_, rfl⟩
              obtain ⟨w9, hw9⟩ : ∃ w9, w8.alloc (.cells #[.string p, .int .i64 I, .slice ga gm2 gc, .bool su] 32) = w9 := ⟨_, rfl⟩
              have HW9 := Lib.hid hw9
              have b9 : Hid (Below w7.heap.size w7 w9) := Lib.hid (by rw [← hw9]; exact hb8.alloc hb8.size _)
              have Z9 : Hid (w9.heap[gb]? = some (.cells #[.string p, .int .i64 I, .slice ga gm2 gc, .bool su] 32)) := Lib.hid (by rw [← hw9, ← hgb]; exact heap_alloc_new _ _)
              have z0 : w9.cell? ⟨fb, 0, none⟩ = some (.string p) := by rw [cell_of_row _ _ 0 _ _ _ ((b9.out.block _ (lt_of_block Z7.out)).trans Z7.out)]; rfl
              have z1 : w9.cell? ⟨fb, 1, none⟩ = some (.int .i64 I) := by rw [cell_of_row _ _ 1 _ _ _ ((b9.out.block _ (lt_of_block Z7.out)).trans Z7.out)]; rfl
              have y0 : w9.cell? ⟨gb, 0, none⟩ = some (.string p) := by rw [cell_of_row _ _ 0 _ _ _ Z9.out]; rfl
              have y1 : w9.cell? ⟨gb, 1, none⟩ = some (.int .i64 I) := by rw [cell_of_row _ _ 1 _ _ _ Z9.out]; rfl
              have B9 : Hid (Below w2.heap.size w2 w9) := Lib.hid (bstep B7.out b9.out)
              have HCO : Hid (∀ wx, Calls Tryd.prog 8 #[.nilIface] wx fun e w' => e = .returned (.int .i64 0) ∧ wx = w') := Lib.hid (fun wx => code_nil wx)
              clear hw9 hb8
              go_upto_region 23 with fail
              rw [HW9.out]
              try rw [hgb]
              clear hgb
              go_wp2_with fail
              refine (HCO.out w9).mono ?_
              rintro e w13 ⟨rfl, rfl⟩
              go_wp2_with fail
              refine (HCO.out w9).mono ?_
              rintro e w13 ⟨rfl, rfl⟩
              go_wp2_with fail
              go_roundg g2
              case measure => have := HKK.out; omega
              case rel => exact ⟨i + 1, by have := HKK.out; omega, (by have := HKK.out; have := HPL.out; rw [IntWalk.wrap64_in _ ⟨by omega, by omega⟩]; rfl), B9⟩
    | succ g2 =>
      have hlt : k < n := by omega
      have hkL : k < L.length := by rw [HLN.out]; exact hlt
      obtain ⟨b1, o1, rfl, hblt, hcs⟩ := (HR.out.below (bstep B2.out HB.out)) k hkL
      obtain ⟨hk03, hps, hn0, hn1, hn3⟩ := HNO.out k hkL
      generalize L[k] = nd at *
      obtain ⟨path, kind, da, dn, dc, tgt, su⟩ := nd
      simp only [] at hk03 hps hn0 hn1 hn3
      have c0 : wr.cell? ⟨b1, o1 + k * 5, none⟩ = some (.string path) := hcs 0 (by omega)
      have c1 : wr.cell? ⟨b1, o1 + k * 5 + 1, none⟩ = some (.int .i64 kind) := hcs 1 (by omega)
      have HBL := Lib.hid hblt
      have HC0 := Lib.hid c0
      have HO := Lib.hid (HOP.out path wr (by omega) HB.out)
      clear hcs hblt hkL hps hk
      go_upto_region 8 with fail
      go_wp2_with fail
      refine HO.out.mono ?_
      rintro e w4 ⟨hpost, hb4⟩
      rcases (show kind = 0 ∨ kind = 1 ∨ kind = 2 ∨ kind = 3 by omega) with hq | hq | hq | hq
      · subst hq
        rw [hn0 rfl] at hpost
        obtain ⟨fa, fc, rfl, -⟩ := hpost
        have HC1 := Lib.hid c1
        clear hn0 hn1 hn3 hk03
        obtain ⟨fm, hfm⟩ : ∃ fm, (D k).length = fm := ⟨_, rfl⟩
        rw [hfm]
        clear hfm
        obtain ⟨fb, hfb⟩ : ∃ fb, w4.heap.size = fb := ⟨_, rfl⟩
        obtain ⟨w5, hw5⟩ : ∃ w5, w4.alloc (.cells #[.string path, .int .i64 (k : Int), .slice fa fm fc, .bool su] 32) = w5 := ⟨_, rfl⟩
        have HW5 := Lib.hid hw5
        have b5 : Hid (Below wr.heap.size wr w5) := Lib.hid (by rw [← hw5]; exact hb4.alloc hb4.size _)
        have Z5 : Hid (w5.heap[fb]? = some (.cells #[.string path, .int .i64 (k : Int), .slice fa fm fc, .bool su] 32)) := Lib.hid (by rw [← hw5, ← hfb]; exact heap_alloc_new _ _)
        have KS : Hid (∀ wx, Below w5.heap.size w5 wx → wx.cell? ⟨b1, o1 + k * 5, none⟩ = some (.string path) ∧ wx.cell? ⟨b1, o1 + k * 5 + 1, none⟩ = some (.int .i64 0) ∧ wx.cell? ⟨fb, 0, none⟩ = some (.string path) ∧ wx.cell? ⟨fb, 1, none⟩ = some (.int .i64 (k : Int))) := Lib.hid (fun wx hb => ⟨(((bstep b5.out hb).cell (p := ⟨b1, o1 + k * 5, none⟩) HBL.out)).trans HC0.out, (((bstep b5.out hb).cell (p := ⟨b1, o1 + k * 5 + 1, none⟩) HBL.out)).trans HC1.out, (by rw [cell_of_row _ _ 0 _ _ _ ((hb.block _ (lt_of_block Z5.out)).trans Z5.out)]; rfl), (by rw [cell_of_row _ _ 1 _ _ _ ((hb.block _ (lt_of_block Z5.out)).trans Z5.out)]; rfl)⟩)
        clear hw5 hb4 c0 c1
        go_upto_region 9 with fail
        rw [HW5.out]
        try rw [hfb]
        clear hfb
        obtain ⟨c0, c1, d0, d1⟩ := KS.out _ (Below.refl _ _)
        go_quiet (fail)
        have BQ : Hid (Below w5.heap.size w5 (World.drewN w5 nq)) := Lib.hid (below_drewN (Below.refl _ _) _)
        generalize World.drewN w5 nq = w6 at *
        clear c0 c1 d0 d1
        obtain ⟨c0, c1, d0, d1⟩ := KS.out _ BQ.out
        go_wp2_with fail
        go_quiet (fail)
        have BR : Hid (Below w5.heap.size w5 (World.drewN w6 nq)) := Lib.hid (below_drewN BQ.out _)
        go_wp2_with fail
        go_roundg g2
        case measure => have := HKK.out; omega
        case rel => exact ⟨k + 1, by have := HKK.out; omega, (by have := HKK.out; have := HNM.out; rw [IntWalk.wrap64_in _ ⟨by omega, by omega⟩]; rfl), Lib.hid (bstep HB.out (bstep b5.out BR.out))⟩
      · subst hq
        rw [hn1 rfl] at hpost
        obtain rfl : e = _ := hpost
        rw [errV_yes (by omega)]
        have HC1 := Lib.hid c1
        clear hn0 hn1 hn3 hk03
        obtain ⟨fb, hfb⟩ : ∃ fb, w4.heap.size = fb := ⟨_, rfl⟩
        obtain ⟨w5, hw5⟩ : ∃ w5, w4.alloc (.cells #[.string ⟨#[]⟩, .int .i64 0, .slice none 0 0, .bool false] 32) = w5 := ⟨_, rfl⟩
        have HW5 := Lib.hid hw5
        have b5 : Hid (Below wr.heap.size wr w5) := Lib.hid (by rw [← hw5]; exact hb4.alloc hb4.size _)
        have Z5 : Hid (w5.heap[fb]? = some (.cells #[.string ⟨#[]⟩, .int .i64 0, .slice none 0 0, .bool false] 32)) := Lib.hid (by rw [← hw5, ← hfb]; exact heap_alloc_new _ _)
        have KS : Hid (∀ wx, Below w5.heap.size w5 wx → wx.cell? ⟨b1, o1 + k * 5, none⟩ = some (.string path) ∧ wx.cell? ⟨b1, o1 + k * 5 + 1, none⟩ = some (.int .i64 1) ∧ wx.cell? ⟨fb, 0, none⟩ = some (.string ⟨#[]⟩) ∧ wx.cell? ⟨fb, 1, none⟩ = some (.int .i64 0)) := Lib.hid (fun wx hb => ⟨(((bstep b5.out hb).cell (p := ⟨b1, o1 + k * 5, none⟩) HBL.out)).trans HC0.out, (((bstep b5.out hb).cell (p := ⟨b1, o1 + k * 5 + 1, none⟩) HBL.out)).trans HC1.out, (by rw [cell_of_row _ _ 0 _ _ _ ((hb.block _ (lt_of_block Z5.out)).trans Z5.out)]; rfl), (by rw [cell_of_row _ _ 1 _ _ _ ((hb.block _ (lt_of_block Z5.out)).trans Z5.out)]; rfl)⟩)
        clear hw5 hb4 c0 c1
        go_upto_region 9 with fail
        rw [HW5.out]
        try rw [hfb]
        clear hfb
        obtain ⟨c0, c1, d0, d1⟩ := KS.out _ (Below.refl _ _)
        go_quiet (fail)
        have BQ : Hid (Below w5.heap.size w5 (World.drewN w5 nq)) := Lib.hid (below_drewN (Below.refl _ _) _)
        generalize World.drewN w5 nq = w6 at *
        clear c0 c1 d0 d1
        obtain ⟨c0, c1, d0, d1⟩ := KS.out _ BQ.out
        go_wp2_with fail
        go_quiet (fail)
        have BR : Hid (Below w5.heap.size w5 (World.drewN w6 nq)) := Lib.hid (below_drewN BQ.out _)
        go_wp2_with fail
        go_roundg g2
        case measure => have := HKK.out; omega
        case rel => exact ⟨k + 1, by have := HKK.out; omega, (by have := HKK.out; have := HNM.out; rw [IntWalk.wrap64_in _ ⟨by omega, by omega⟩]; rfl), Lib.hid (bstep HB.out (bstep b5.out BR.out))⟩
      · subst hq
        cases hv : openF F S path with
        | error en =>
          rw [hv] at hpost
          have he := openF_err HTI.out.ok hv
          obtain rfl : e = _ := hpost
          rw [errV_yes (by omega)]
          have HC1 := Lib.hid c1
          clear hn0 hn1 hn3 hk03 hv he
          obtain ⟨fb, hfb⟩ : ∃ fb, w4.heap.size = fb := ⟨_, rfl⟩
          obtain ⟨w5, hw5⟩ : ∃ w5, w4.alloc (.cells #[.string ⟨#[]⟩, .int .i64 0, .slice none 0 0, .bool false] 32) = w5 := ⟨_, rfl⟩
          have HW5 := Lib.hid hw5
          have b5 : Hid (Below wr.heap.size wr w5) := Lib.hid (by rw [← hw5]; exact hb4.alloc hb4.size _)
          have Z5 : Hid (w5.heap[fb]? = some (.cells #[.string ⟨#[]⟩, .int .i64 0, .slice none 0 0, .bool false] 32)) := Lib.hid (by rw [← hw5, ← hfb]; exact heap_alloc_new _ _)
          have KS : Hid (∀ wx, Below w5.heap.size w5 wx → wx.cell? ⟨b1, o1 + k * 5, none⟩ = some (.string path) ∧ wx.cell? ⟨b1, o1 + k * 5 + 1, none⟩ = some (.int .i64 2) ∧ wx.cell? ⟨fb, 0, none⟩ = some (.string ⟨#[]⟩) ∧ wx.cell? ⟨fb, 1, none⟩ = some (.int .i64 0)) := Lib.hid (fun wx hb => ⟨(((bstep b5.out hb).cell (p := ⟨b1, o1 + k * 5, none⟩) HBL.out)).trans HC0.out, (((bstep b5.out hb).cell (p := ⟨b1, o1 + k * 5 + 1, none⟩) HBL.out)).trans HC1.out, (by rw [cell_of_row _ _ 0 _ _ _ ((hb.block _ (lt_of_block Z5.out)).trans Z5.out)]; rfl), (by rw [cell_of_row _ _ 1 _ _ _ ((hb.block _ (lt_of_block Z5.out)).trans Z5.out)]; rfl)⟩)
          clear hw5 hb4 c0 c1
          go_upto_region 9 with fail
          rw [HW5.out]
          try rw [hfb]
          clear hfb
          obtain ⟨c0, c1, d0, d1⟩ := KS.out _ (Below.refl _ _)
          go_quiet (fail)
          have BQ : Hid (Below w5.heap.size w5 (World.drewN w5 nq)) := Lib.hid (below_drewN (Below.refl _ _) _)
          generalize World.drewN w5 nq = w6 at *
          clear c0 c1 d0 d1
          obtain ⟨c0, c1, d0, d1⟩ := KS.out _ BQ.out
          go_wp2_with fail
          go_quiet (fail)
          have BR : Hid (Below w5.heap.size w5 (World.drewN w6 nq)) := Lib.hid (below_drewN BQ.out _)
          go_wp2_with fail
          go_roundg g2
          case measure => have := HKK.out; omega
          case rel => exact ⟨k + 1, by have := HKK.out; omega, (by have := HKK.out; have := HNM.out; rw [IntWalk.wrap64_in _ ⟨by omega, by omega⟩]; rfl), Lib.hid (bstep HB.out (bstep b5.out BR.out))⟩
        | ok v =>
          obtain ⟨vp, I, vs, vb⟩ := v
          rw [hv] at hpost
          obtain ⟨fa, fc, rfl, -⟩ := hpost
          obtain ⟨fm, hfm⟩ : ∃ fm, vb.length = fm := ⟨_, rfl⟩
          rw [hfm]
          clear hfm hv
          have HC1 := Lib.hid c1
          clear hn0 hn1 hn3 hk03
          obtain ⟨fb, hfb⟩ : ∃ fb, w4.heap.size = fb := ⟨_, rfl⟩
          obtain ⟨w5, hw5⟩ : ∃ w5, w4.alloc (.cells #[.string vp, .int .i64 I, .slice fa fm fc, .bool vs] 32) = w5 := ⟨_, rfl⟩
          have HW5 := Lib.hid hw5
          have b5 : Hid (Below wr.heap.size wr w5) := Lib.hid (by rw [← hw5]; exact hb4.alloc hb4.size _)
          have Z5 : Hid (w5.heap[fb]? = some (.cells #[.string vp, .int .i64 I, .slice fa fm fc, .bool vs] 32)) := Lib.hid (by rw [← hw5, ← hfb]; exact heap_alloc_new _ _)
          have KS : Hid (∀ wx, Below w5.heap.size w5 wx → wx.cell? ⟨b1, o1 + k * 5, none⟩ = some (.string path) ∧ wx.cell? ⟨b1, o1 + k * 5 + 1, none⟩ = some (.int .i64 2) ∧ wx.cell? ⟨fb, 0, none⟩ = some (.string vp) ∧ wx.cell? ⟨fb, 1, none⟩ = some (.int .i64 I)) := Lib.hid (fun wx hb => ⟨(((bstep b5.out hb).cell (p := ⟨b1, o1 + k * 5, none⟩) HBL.out)).trans HC0.out, (((bstep b5.out hb).cell (p := ⟨b1, o1 + k * 5 + 1, none⟩) HBL.out)).trans HC1.out, (by rw [cell_of_row _ _ 0 _ _ _ ((hb.block _ (lt_of_block Z5.out)).trans Z5.out)]; rfl), (by rw [cell_of_row _ _ 1 _ _ _ ((hb.block _ (lt_of_block Z5.out)).trans Z5.out)]; rfl)⟩)
          clear hw5 hb4 c0 c1
          go_upto_region 9 with fail
          rw [HW5.out]
          try rw [hfb]
          clear hfb
          obtain ⟨c0, c1, d0, d1⟩ := KS.out _ (Below.refl _ _)
          go_quiet (fail)
          have BQ : Hid (Below w5.heap.size w5 (World.drewN w5 nq)) := Lib.hid (below_drewN (Below.refl _ _) _)
          generalize World.drewN w5 nq = w6 at *
          clear c0 c1 d0 d1
          obtain ⟨c0, c1, d0, d1⟩ := KS.out _ BQ.out
          go_wp2_with fail
          go_quiet (fail)
          have BR : Hid (Below w5.heap.size w5 (World.drewN w6 nq)) := Lib.hid (below_drewN BQ.out _)
          go_wp2_with fail
          go_roundg g2
          case measure => have := HKK.out; omega
          case rel => exact ⟨k + 1, by have := HKK.out; omega, (by have := HKK.out; have := HNM.out; rw [IntWalk.wrap64_in _ ⟨by omega, by omega⟩]; rfl), Lib.hid (bstep HB.out (bstep b5.out BR.out))⟩
      · subst hq
        obtain ⟨⟨vp, I, vs, vb⟩, hv⟩ := hn3 rfl
        rw [hv] at hpost
        obtain ⟨fa, fc, rfl, -⟩ := hpost
        obtain ⟨fm, hfm⟩ : ∃ fm, vb.length = fm := ⟨_, rfl⟩
        rw [hfm]
        clear hfm hv
        have HC1 := Lib.hid c1
        clear hn0 hn1 hn3 hk03
        obtain ⟨fb, hfb⟩ : ∃ fb, w4.heap.size = fb := ⟨_, rfl⟩
        obtain ⟨w5, hw5⟩ : ∃ w5, w4.alloc (.cells #[.string vp, .int .i64 I, .slice fa fm fc, .bool vs] 32) = w5 := ⟨_, rfl⟩
        have HW5 := Lib.hid hw5
        have b5 : Hid (Below wr.heap.size wr w5) := Lib.hid (by rw [← hw5]; exact hb4.alloc hb4.size _)
        have Z5 : Hid (w5.heap[fb]? = some (.cells #[.string vp, .int .i64 I, .slice fa fm fc, .bool vs] 32)) := Lib.hid (by rw [← hw5, ← hfb]; exact heap_alloc_new _ _)
        have KS : Hid (∀ wx, Below w5.heap.size w5 wx → wx.cell? ⟨b1, o1 + k * 5, none⟩ = some (.string path) ∧ wx.cell? ⟨b1, o1 + k * 5 + 1, none⟩ = some (.int .i64 3) ∧ wx.cell? ⟨fb, 0, none⟩ = some (.string vp) ∧ wx.cell? ⟨fb, 1, none⟩ = some (.int .i64 I)) := Lib.hid (fun wx hb => ⟨(((bstep b5.out hb).cell (p := ⟨b1, o1 + k * 5, none⟩) HBL.out)).trans HC0.out, (((bstep b5.out hb).cell (p := ⟨b1, o1 + k * 5 + 1, none⟩) HBL.out)).trans HC1.out, (by rw [cell_of_row _ _ 0 _ _ _ ((hb.block _ (lt_of_block Z5.out)).trans Z5.out)]; rfl), (by rw [cell_of_row _ _ 1 _ _ _ ((hb.block _ (lt_of_block Z5.out)).trans Z5.out)]; rfl)⟩)
        clear hw5 hb4 c0 c1
        go_upto_region 9 with fail
        rw [HW5.out]
        try rw [hfb]
        clear hfb
        obtain ⟨c0, c1, d0, d1⟩ := KS.out _ (Below.refl _ _)
        go_quiet (fail)
        have BQ : Hid (Below w5.heap.size w5 (World.drewN w5 nq)) := Lib.hid (below_drewN (Below.refl _ _) _)
        generalize World.drewN w5 nq = w6 at *
        clear c0 c1 d0 d1
        obtain ⟨c0, c1, d0, d1⟩ := KS.out _ BQ.out
        go_wp2_with fail
        go_quiet (fail)
        have BR : Hid (Below w5.heap.size w5 (World.drewN w6 nq)) := Lib.hid (below_drewN BQ.out _)
        go_wp2_with fail
        go_roundg g2
        case measure => have := HKK.out; omega
        case rel => exact ⟨k + 1, by have := HKK.out; omega, (by have := HKK.out; have := HNM.out; rw [IntWalk.wrap64_in _ ⟨by omega, by omega⟩]; rfl), Lib.hid (bstep HB.out (bstep b5.out BR.out))⟩
end Go.Proofs.YtpblgbegdfdgdaaDoor
