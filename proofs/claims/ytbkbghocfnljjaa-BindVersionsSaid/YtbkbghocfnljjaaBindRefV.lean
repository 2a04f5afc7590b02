/- Layer 17, the document's own answer: the first version that isn't there. -/
import Derived.Test.YtbkbghocfnljjaaBindRefP
namespace Go.Proofs.Ytbkbghocfnljjaa
open Go.RowKit
set_option linter.unusedVariables false
set_option linter.unusedSimpArgs false

set_option maxRecDepth 100000 in
set_option maxHeartbeats 16000000 in
theorem rversions_any (a : Option Addr) (cap n : Nat) (l : List BObj) (na : Option Addr) (nc : Nat) (names : List ByteArray) (w : World) (hl : l.length = n) (hn : n ≤ 1099511627776) (h : ORow w a l) (hnr : TRow w na names) (hnl : names.length ≤ 140737488355328) :
    Calls Try.prog 7 #[.slice a n cap, .slice na names.length nc] w fun e w' => e = .returned (wantV (missO (fun file ver => provF names file ver 0 l) 0 l)) ∧ Below w.heap.size w w' := by
  have H := Lib.hid h
  have HL := Lib.hid hl
  have HPR := Lib.hid (fun (file ver : ByteArray) (w1 : World) (hb : Below w.heap.size w w1) => provides_any a cap n l na nc names file ver w1 hl hn (h.below hb) (hnr.below hb) hnl)
  obtain ⟨pr, hpr⟩ : ∃ pr : ByteArray → ByteArray → Bool, (fun file ver => provF names file ver 0 l) = pr := ⟨_, rfl⟩
  have HP2 : Hid (∀ file ver, provF names file ver 0 l = pr file ver) := Lib.hid (fun file ver => by rw [← hpr])
  rw [hpr]
  clear h hl hnr hpr
  obtain ⟨R, hR⟩ : ∃ R, missO pr 0 l = R := ⟨_, rfl⟩
  have HR0 := Lib.hid hR
  rw [hR]
  clear hR
  have B1 : Hid (Below w.heap.size w (w.alloc (.cells #[.string ⟨#[]⟩, .string ⟨#[]⟩, .string ⟨#[]⟩] 26))) := Lib.hid ((Below.refl _ _).alloc (Nat.le_refl _) _)
  have HW : Hid (∀ w1, Below (w.alloc (.cells #[.string ⟨#[]⟩, .string ⟨#[]⟩, .string ⟨#[]⟩] 26)).heap.size (w.alloc (.cells #[.string ⟨#[]⟩, .string ⟨#[]⟩, .string ⟨#[]⟩] 26)) w1 → w1.heap[w.heap.size]? = some (.cells #[.string ⟨#[]⟩, .string ⟨#[]⟩, .string ⟨#[]⟩] 26)) := Lib.hid (fun w1 hb => (hb.block _ (by simp)).trans (heap_alloc_new w (.cells #[.string ⟨#[]⟩, .string ⟨#[]⟩, .string ⟨#[]⟩] 26)))
  go_enter Try.func7, Try.ntmps7
  go_wp2_with fail
  generalize hw1 : (w.alloc (.cells #[.string ⟨#[]⟩, .string ⟨#[]⟩, .string ⟨#[]⟩] 26)) = w1 at *
  clear hw1
  generalize names.length = nl at *
  obtain ⟨vb, hvb⟩ : ∃ vb, w.heap.size = vb := ⟨_, rfl⟩
  have HVB := Lib.hid hvb
  rw [hvb] at HW ⊢
  clear hvb
  go_loopg [7] n (fun g i wr => ∃ k : Nat, k + g = n ∧ i = .int .i64 (k : Int) ∧ Hid (missO pr k (l.drop k) = R) ∧ Hid (Below w1.heap.size w1 wr))
  case atStart => exact ⟨0, by omega, rfl, HR0, Lib.hid (Below.refl _ _)⟩
  case round =>
    clear HR0
    obtain ⟨k, hk, rfl, HR, HB⟩ := hrel
    cases gk with
    | zero =>
      have hke : k = n := by omega
      have HF : Hid (R = none) := Lib.hid (by rw [← HR.out, List.drop_of_length_le (by rw [HL.out, hke]; exact Nat.le_refl _)]; rfl)
      have hbw := HW.out _ HB.out
      have BF := Lib.hid (bstep B1.out HB.out)
      clear hk
      subst hke
      have v0 : wr.cell? ⟨vb, 0, none⟩ = some (.string ⟨#[]⟩) := by rw [cell_of_row _ _ 0 _ _ _ hbw]; rfl
      have v1 : wr.cell? ⟨vb, 1, none⟩ = some (.string ⟨#[]⟩) := by rw [cell_of_row _ _ 1 _ _ _ hbw]; rfl
      have v2 : wr.cell? ⟨vb, 2, none⟩ = some (.string ⟨#[]⟩) := by rw [cell_of_row _ _ 2 _ _ _ hbw]; rfl
      have f0 := frozen_of_row wr vb 0 _ _ hbw
      have f1 := frozen_of_row wr vb 1 _ _ hbw
      have f2 := frozen_of_row wr vb 2 _ _ hbw
      have FS := Lib.hid (three_stores hbw (.string ⟨#[]⟩) (.string ⟨#[]⟩) (.string ⟨#[]⟩))
      have hr := fun (cs : Array Value) (j : Nat) => cell_setRow_same wr vb j _ cs _ _ hbw
      have r0 := hr #[.string ⟨#[]⟩, .string ⟨#[]⟩, .string ⟨#[]⟩] 0
      have r1 := hr #[.string ⟨#[]⟩, .string ⟨#[]⟩, .string ⟨#[]⟩] 1
      have r2 := hr #[.string ⟨#[]⟩, .string ⟨#[]⟩, .string ⟨#[]⟩] 2
      simp only [List.getElem?_toArray, List.getElem?_cons_zero, List.getElem?_cons_succ] at r0 r1 r2
      have RR0 := Lib.hid r0
      have RR1 := Lib.hid r1
      have RR2 := Lib.hid r2
      have BZ : Hid (Below vb w (wr.setRow vb #[.string ⟨#[]⟩, .string ⟨#[]⟩, .string ⟨#[]⟩])) := Lib.hid (below_setRow (by rw [← HVB.out]; exact BF.out) (Nat.le_refl _) _)
      clear r0 r1 r2 hr hbw
      go_wp2_with fail
      rw [FS.out]
      refine bodyPost_ret (by simp [results, Try.results7, go_sem, RR0.out, RR1.out, RR2.out]; try rfl) rfl ?_
      exact ⟨by rw [HF.out]; rfl, by rw [HVB.out]; exact BZ.out⟩
    | succ g =>
      have hkn : k < n := by omega
      have hkl : k < l.length := by rw [HL.out]; exact hkn
      have BW := Lib.hid (bstep B1.out HB.out)
      obtain ⟨b, o, C, rfl, hlt, hrange, hC⟩ := H.out k hkl
      have HD : Hid (l.drop k = l[k] :: l.drop (k + 1)) := Lib.hid (drop_cons hkl)
      generalize l[k] = x at *
      rw [HD.out, missO_cons] at HR
      obtain ⟨nda, ndc, e49, hdr⟩ := hC.needs
      have HC49 : Hid (∀ wx, Below w.heap.size w wx → wx.cell? ⟨b, o + k * 54 + 49, none⟩ = some (.slice nda x.needs.length ndc)) := Lib.hid (fun wx hb => rangeAt_below hrange hlt hb 49 _ (by rw [Array.getElem?_toList]; exact e49))
      have hnlen := hC.nlen
      have HND := Lib.hid hdr
      obtain ⟨ln, hln⟩ : ∃ ln, x.needs.length = ln := ⟨_, rfl⟩
      have HLN := Lib.hid hln
      rw [hln] at HC49 hnlen
      clear hrange hC hkl e49 hdr hln hlt
      go_wp2_with fail
      go_loopg [8] ln (fun g i wx => ∃ j : Nat, j + g = ln ∧ i = .int .i64 (j : Int) ∧ Hid ((missN pr k (x.needs.drop j)).or (missO pr (k + 1) (l.drop (k + 1))) = R) ∧ Hid (Below w1.heap.size w1 wx))
      case atStart => exact ⟨0, by omega, rfl, HR, HB⟩
      case round =>
        clear HR HB BW
        obtain ⟨j, hj, rfl, HR, HB⟩ := hrel
        have BW := Lib.hid (bstep B1.out HB.out)
        have c49 := HC49.out _ BW.out
        cases gk with
        | zero =>
          have hje : j = ln := by omega
          have HR2 : Hid (missO pr (k + 1) (l.drop (k + 1)) = R) := Lib.hid (by rw [← HR.out, show x.needs.drop j = [] from List.drop_of_length_le (by rw [HLN.out, hje]; exact Nat.le_refl _)]; rfl)
          clear hj
          subst hje
          go_wp2_with fail
          go_roundg g
          case measure => omega
          case rel => exact ⟨k + 1, by omega, by go_num, HR2, HB⟩
        | succ g2 =>
          have hjn : j < ln := by omega
          have hjl : j < x.needs.length := by rw [HLN.out]; exact hjn
          obtain ⟨b2, o2, xa, xc, rfl, hlt2, c0, c1, hax, hal⟩ := (HND.out.below BW.out) j hjl
          have HAX0 := Lib.hid hax
          have HD2 : Hid (x.needs.drop j = x.needs[j] :: x.needs.drop (j + 1)) := Lib.hid (drop_cons hjl)
          generalize x.needs[j] = nd at *
          rw [HD2.out, missN_cons, or_or] at HR
          obtain ⟨RS, hRS⟩ : ∃ RS, (missN pr k (x.needs.drop (j + 1))).or (missO pr (k + 1) (l.drop (k + 1))) = RS := ⟨_, rfl⟩
          have HRS := Lib.hid hRS
          rw [hRS] at HR
          obtain ⟨fl, hfl⟩ : ∃ fl, nd.file = fl := ⟨_, rfl⟩
          obtain ⟨ax, hax2⟩ : ∃ ax, nd.aux = ax := ⟨_, rfl⟩
          rw [hfl] at c0 HR
          rw [hax2] at c1 hal HAX0 HR
          obtain ⟨la, hla⟩ : ∃ la, ax.length = la := ⟨_, rfl⟩
          have HLA := Lib.hid hla
          rw [hla] at c1 hal
          have BX : Hid (Below w1.heap.size w1 (wr.alloc (.cells #[.string fl, .slice xa la xc] 62))) := Lib.hid (HB.out.alloc HB.out.size _)
          have HBX : Hid (∀ wx, Below (wr.alloc (.cells #[.string fl, .slice xa la xc] 62)).heap.size (wr.alloc (.cells #[.string fl, .slice xa la xc] 62)) wx → wx.cell? ⟨wr.heap.size, 0, none⟩ = some (.string fl) ∧ wx.cell? ⟨wr.heap.size, 1, none⟩ = some (.slice xa la xc)) := Lib.hid (fun wx h => by
            have e1 := (h.block _ (by simp)).trans (heap_alloc_new wr (.cells #[.string fl, .slice xa la xc] 62))
            exact ⟨by rw [cell_of_row _ _ 0 _ _ _ e1]; rfl, by rw [cell_of_row _ _ 1 _ _ _ e1]; rfl⟩)
          have BXW := Lib.hid (bstep B1.out BX.out)
          have HAX := Lib.hid (HAX0.out.below ((Below.refl wr.heap.size wr).alloc (Nat.le_refl _) (.cells #[.string fl, .slice xa la xc] 62)))
          clear hRS hfl hax2 hla hjl hlt2 hax HAX0 HD2
          go_wp2_with fail
          clear c49
          generalize hw5 : (wr.alloc (.cells #[.string fl, .slice xa la xc] 62)) = w5 at *
          clear hw5
          generalize wr.heap.size = nb at *
          go_loopg [10] la (fun g i wx => ∃ q : Nat, q + g = la ∧ i = .int .i64 (q : Int) ∧ Hid ((missA pr k fl (ax.drop q)).or RS = R) ∧ Hid (Below w5.heap.size w5 wx))
          case atStart => exact ⟨0, by omega, rfl, HR, Lib.hid (Below.refl _ _)⟩
          case round =>
            clear HR HB BW c0 c1
            obtain ⟨q, hq, rfl, HR, HB⟩ := hrel
            obtain ⟨g0, g1⟩ := HBX.out _ HB.out
            cases gk with
            | zero =>
              have hqe : q = la := by omega
              have HR2 : Hid (RS = R) := Lib.hid (by rw [← HR.out, List.drop_of_length_le (by rw [HLA.out, hqe]; exact Nat.le_refl _)]; rfl)
              have HB2 := Lib.hid (bstep BX.out HB.out)
              clear hq
              subst hqe
              go_wp2_with fail
              go_roundg g2
              case measure => omega
              case rel => exact ⟨j + 1, by omega, by go_num, Lib.hid (by rw [HRS.out]; exact HR2.out), HB2⟩
            | succ g3 =>
              have hqn : q < la := by omega
              have hql : q < ax.length := by rw [HLA.out]; exact hqn
              have HBD : Hid (Below w5.heap.size w5 wr.drew) := Lib.hid HB.out.drew
              obtain ⟨b3, o3, rfl, hlt3, d0, d1, d2⟩ := (HAX.out.below HBD.out) q hql
              obtain ⟨gd0, gd1⟩ := HBX.out _ HBD.out
              have HD3 : Hid (ax.drop q = ax[q] :: ax.drop (q + 1)) := Lib.hid (drop_cons hql)
              generalize ax[q] = v at *
              rw [HD3.out, missA_cons] at HR
              have BY := Lib.hid (bstep BXW.out HBD.out)
              have HCALL := Lib.hid (HPR.out fl v.name _ BY.out)
              rw [HP2.out] at HCALL
              clear hlt3 hql HD3
              generalize v.idx = vi at *
              generalize v.weak = vw at *
              generalize v.name = vn at *
              go_wp2_with fail
              clear g0 g1
              refine wp_region_still_tail 10 (by kernel_rfl) (by kernel_rfl) ?_
              simp only [List.take_succ_cons, List.take_zero, List.drop_succ_cons, List.drop_zero]
              change wpStill _ _ (World.drew wr) _ _ _
              iterate 10 still_step
              refine wpStill_nil ?_
              change wpList _ _ _ _ _ (World.drew wr)
              generalize World.drew wr = wd at *
              go_wp2_with fail
              refine HCALL.out.mono ?_
              rintro e w6 ⟨rfl, rfl⟩
              cases vw with
              | true =>
                have HR2 : Hid ((missA pr k fl (ax.drop (q + 1))).or RS = R) := Lib.hid (by
                  have := HR.out
                  rw [if_neg (fun h => by cases h.1)] at this
                  exact this)
                clear HR HCALL
                go_wp2_with fail
                go_roundg g3
                case measure => omega
                case rel => exact ⟨q + 1, by omega, by go_num, HR2, HBD⟩
              | false =>
                clear HCALL
                cases hp : pr fl vn with
                | true =>
                  have HR2 : Hid ((missA pr k fl (ax.drop (q + 1))).or RS = R) := Lib.hid (by
                    have := HR.out
                    rw [if_neg (fun h => by rw [hp] at h; cases h.2)] at this
                    exact this)
                  clear HR hp
                  go_wp2_with fail
                  go_roundg g3
                  case measure => omega
                  case rel => exact ⟨q + 1, by omega, by go_num, HR2, HBD⟩
                | false =>
                  have HF : Hid (R = some (k, vn, fl)) := Lib.hid (by
                    have := HR.out
                    rw [if_pos (by simp only [hp, and_self])] at this
                    exact this.symm)
                  have hbw0 := HW.out _ (bstep BX.out HBD.out)
                  have hbw : (World.drew wd).heap[vb]? = some (.cells #[.string ⟨#[]⟩, .string ⟨#[]⟩, .string ⟨#[]⟩] 26) := hbw0
                  have BWF : Hid (Below w.heap.size w (World.drew wd)) := Lib.hid ((bstep B1.out (bstep BX.out HBD.out)).drew)
                  have h0 : (World.drew wd).cell? ⟨nb, 0, none⟩ = some (.string fl) := gd0
                  have h1 : (World.drew wd).cell? ⟨nb, 1, none⟩ = some (.slice (some ⟨b3, o3, none⟩) la xc) := gd1
                  have h2 : (World.drew wd).cell? ⟨b3, o3 + q * 3 + 2, none⟩ = some (.string vn) := d2
                  clear HR hp hbw0
                  go_wp2_with fail
                  clear gd0 gd1 d0 d1 d2
                  refine wp_region_still_tail 11 (by kernel_rfl) (by kernel_rfl) ?_
                  simp only [List.take_succ_cons, List.take_zero, List.drop_succ_cons, List.drop_zero]
                  change wpStill _ _ (World.drew wd) _ _ _
                  iterate 11 still_step
                  refine wpStill_nil ?_
                  change wpList _ _ _ _ _ (World.drew wd)
                  generalize World.drew wd = w7 at *
                  clear h0 h1 h2
                  have v0 : w7.cell? ⟨vb, 0, none⟩ = some (.string ⟨#[]⟩) := by rw [cell_of_row _ _ 0 _ _ _ hbw]; rfl
                  have v1 : w7.cell? ⟨vb, 1, none⟩ = some (.string ⟨#[]⟩) := by rw [cell_of_row _ _ 1 _ _ _ hbw]; rfl
                  have v2 : w7.cell? ⟨vb, 2, none⟩ = some (.string ⟨#[]⟩) := by rw [cell_of_row _ _ 2 _ _ _ hbw]; rfl
                  have f0 := frozen_of_row w7 vb 0 _ _ hbw
                  have f1 := frozen_of_row w7 vb 1 _ _ hbw
                  have f2 := frozen_of_row w7 vb 2 _ _ hbw
                  have FS := Lib.hid (three_stores hbw (.string ⟨#[]⟩) (.string vn) (.string fl))
                  have hr := fun (cs : Array Value) (j : Nat) => cell_setRow_same w7 vb j _ cs _ _ hbw
                  have r0 := hr #[.string ⟨#[]⟩, .string vn, .string fl] 0
                  have r1 := hr #[.string ⟨#[]⟩, .string vn, .string fl] 1
                  have r2 := hr #[.string ⟨#[]⟩, .string vn, .string fl] 2
                  simp only [List.getElem?_toArray, List.getElem?_cons_zero, List.getElem?_cons_succ] at r0 r1 r2
                  have RR0 := Lib.hid r0
                  have RR1 := Lib.hid r1
                  have RR2 := Lib.hid r2
                  have BZ : Hid (Below vb w (w7.setRow vb #[.string ⟨#[]⟩, .string vn, .string fl])) := Lib.hid (below_setRow (by rw [← HVB.out]; exact BWF.out) (Nat.le_refl _) _)
                  clear r0 r1 r2 hr hbw
                  go_wp2_with fail
                  rw [FS.out]
                  refine bodyPost_ret (by simp [results, Try.results7, go_sem, RR0.out, RR1.out, RR2.out]; try rfl) rfl ?_
                  exact ⟨by rw [HF.out]; rfl, by rw [HVB.out]; exact BZ.out⟩
end Go.Proofs.Ytbkbghocfnljjaa
