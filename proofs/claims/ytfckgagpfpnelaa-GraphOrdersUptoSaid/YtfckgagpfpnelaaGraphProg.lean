/- Layer 16: what is reached by breadth, the program's answer. -/
import Derived.Test.YtfckgagpfpnelaaGraphLay
import Derived.StillTailTactics
namespace Go.Proofs.Ytfckgagpfpnelaa
open Go.RowKit
set_option linter.unusedVariables false
set_option linter.unusedSimpArgs false

theorem bools : Try.prog.underlying 29 = some (.slice 4) := Try.underlying29
theorem boolInfo : (Try.prog.info? 4).map (fun i => (i.zero, i.size, i.bytes)) = some (some (.bool false), 1, 1) := by kernel_rfl

set_option maxRecDepth 100000 in
set_option maxHeartbeats 4000000 in
theorem scope_any (w : World) (da : Option Addr) (dc : Nat) (deps : List (List Int)) (ra : Option Addr) (rc : Nat) (roots : List Int) (hn : deps.length ≤ 1048576) (hd : DRow w da deps) (hr : Row .i64 w ra roots) (hx : I64s roots) (hxl : roots.length ≤ 140737488351232) :
    Calls Try.prog 10 #[.slice da deps.length dc, .slice ra roots.length rc] w (ListAns (scopeF deps roots) w) := by
  have HL := Lib.hid (fun (w1 : World) (bd bx bl lb : Nat) (l : List Nat) (am : Option Addr) (cm : Nat) (xs : List Int) => lay_any w w1 deps.length bd bx bl lb da dc l am cm xs hn)
  have HD := Lib.hid hd
  have HR := Lib.hid hr
  have HX := Lib.hid hx
  obtain ⟨n, hnn⟩ : ∃ n, deps.length = n := ⟨_, rfl⟩
  have HR0 : Hid (scopeGo deps (n + 1) 0 (layF n [] roots) = scopeF deps roots) := Lib.hid (by rw [← hnn]; rfl)
  obtain ⟨R, hRR⟩ : ∃ R, scopeF deps roots = R := ⟨_, rfl⟩
  rw [hRR] at HR0 ⊢
  rw [hnn] at HL hn ⊢
  have HN := Lib.hid hnn
  have B1 : Hid (Below w.heap.size w ((w.alloc (.cells #[.slice da n dc] 22)).alloc (.cells #[.slice none 0 0] 23))) := Lib.hid (((Below.refl _ _).alloc (Nat.le_refl _) _).alloc (by simp) _)
  have X1 : Hid (InBox ((w.alloc (.cells #[.slice da n dc] 22)).alloc (.cells #[.slice none 0 0] 23)) w.heap.size (.slice da n dc) 22) := Lib.hid ((InBox.new _ _ _).alloc _)
  have X2 : Hid (InBox ((w.alloc (.cells #[.slice da n dc] 22)).alloc (.cells #[.slice none 0 0] 23)) (w.heap.size + 1) (.slice none 0 0) 23) := Lib.hid (by
    have := InBox.new (w.alloc (.cells #[.slice da n dc] 22)) (.slice none 0 0) 23
    simpa using this)
  clear hd hr hx hRR hnn
  go_enter Try.func10, Try.ntmps10
  go_wp2_with (at_make; go_loud (refine wpList_make_marks rfl (.tmp 10) (.tmp 10) bools boolInfo rfl w.heap.size w n .i64 .i64 (n : Int) (n : Int) rfl rfl rfl rfl hn B1.out B1.out.size ?_); intro lb w4 ho4 hg4 hb4 hb4'; have O4 := Lib.hid ho4; have G4 := Lib.hid hg4; have B4 := Lib.hid hb4; have Y1 := Lib.hid (X1.out.below hb4'); have Y2 := Lib.hid (X2.out.below hb4'); clear ho4 hg4 hb4 hb4' X1 X2 B1)
  have SC0 : Hid (Sc w n w.heap.size w4.heap.size (w.heap.size + 1) lb da dc [] (w4.alloc (.cells #[.slice (some ⟨lb, 0, none⟩) n n] 29))) := Lib.hid
    ⟨Y1.out.alloc _, InBox.new _ _ _, O4.out.alloc _, ⟨none, 0, Y2.out.alloc _, OwnI.nil _ _ _ _⟩, good_nil _, by omega, B4.out.alloc B4.out.size _⟩
  have S4 := Lib.hid B4.out.size
  refine (HL.out _ _ _ _ _ _ ra rc roots SC0.out HR.out HX.out hxl).mono ?_
  rintro e w5 ⟨rfl, hs5⟩
  have S5 := Lib.hid hs5
  clear hs5 SC0 Y1 Y2 O4 G4 B4
  generalize layF n [] roots = l0 at *
  generalize w4.heap.size = bx at *
  go_wp2
  go_loopg [8] (n + 1) (fun g i wr => ∃ (k : Nat) (l : List Nat), k + g = n + 1 ∧ i = .int .i64 (k : Int) ∧ k ≤ l.length ∧ Hid (scopeGo deps g k l = R) ∧ Hid (Sc w n w.heap.size bx (w.heap.size + 1) lb da dc l wr))
  case atStart => exact ⟨0, l0, by omega, rfl, Nat.zero_le _, HR0, S5⟩
  case round =>
    obtain ⟨k, l, hk, rfl, hkl, HS, SC⟩ := hrel
    have hll := nodup_le SC.out.good
    obtain ⟨g, rfl⟩ : ∃ g, gk = g + 1 := ⟨gk - 1, by omega⟩
    obtain ⟨al, cl, hbl, hown⟩ := SC.out.list
    have hcl := hbl.cell
    have hcd := SC.out.deps.cell
    by_cases hlt : k < l.length
    · obtain ⟨b, o, rfl, hc⟩ := hown.at.2.1 k (by rw [toI_length]; exact hlt)
      rw [toI_getD] at hc
      have hlk : l.getD k 0 < n := SC.out.good.2 _ (by simp [List.getD, List.getElem?_eq_getElem hlt])
      have HS' : Hid (scopeGo deps g (k + 1) (layF n l (deps.getD (l.getD k 0) [])) = R) := Lib.hid (by
        have := HS.out
        unfold scopeGo at this
        rw [if_pos hlt, HN.out] at this
        exact this)
      obtain ⟨b2, o2, ai, ci, rfl, hlt3, hcdd, hri, hxi, hli⟩ := HD.out (l.getD k 0) (by rw [HN.out]; exact hlk)
      have hcd2 := (SC.out.below.cell (p := ⟨b2, o2 + l.getD k 0, none⟩) hlt3).trans hcdd
      have HRI := Lib.hid hri
      have HXI := Lib.hid hxi
      have HPF := Lib.hid (layF_prefix n (deps.getD (l.getD k 0) []) l)
      clear hri hxi HS hcdd hbl hown
      generalize deps.getD (l.getD k 0) [] = xs at *
      generalize l.getD k 0 = y at *
      have hlt' : k < l.length := hlt
      have SCD : Hid (Sc w n w.heap.size bx (w.heap.size + 1) lb (some ⟨b2, o2, none⟩) dc l wr.drew) := Lib.hid (by
        have h := SC.out
        exact ⟨h.deps, h.mbox, h.marks, h.list, h.good, h.blk, h.below.drew⟩)
      have hyl : y < 1048577 := by omega
      go_wp2_with fail
      refine wp_region_still_tail 8 (by kernel_rfl) (by kernel_rfl) ?_
      simp only [List.take_succ_cons, List.take_zero, List.drop_succ_cons, List.drop_zero]
      change wpStill _ _ (World.drew wr) _ _ _
      iterate 8 still_step
      refine wpStill_nil ?_
      change wpList _ _ _ _ _ (World.drew wr)
      go_wp2_with fail
      refine (HL.out _ _ _ _ _ _ ai ci xs SCD.out HRI.out HXI.out (by omega)).mono ?_
      rintro e w6 ⟨rfl, hs6⟩
      have S6 := Lib.hid hs6
      have hpl : k + 1 ≤ (layF n l xs).length := by obtain ⟨r, hr⟩ := HPF.out; rw [hr]; simp; omega
      clear hs6 SCD HRI HXI HPF hc hcd hcd2 hcl SC
      generalize layF n l xs = l5 at *
      go_wp2
      go_roundg g
      case measure => omega
      case rel => exact ⟨k + 1, l5, by omega, by go_num, hpl, HS', S6⟩
    · have HE : Hid (l = R) := Lib.hid (by
        have := HS.out
        unfold scopeGo at this
        rwa [if_neg hlt] at this)
      have HOW := Lib.hid hown
      clear hbl hown
      go_wp2
      go_ret
      have := HE.out
      subst this
      exact ⟨al, cl, rfl, HOW.out, SC.out.below⟩
end Go.Proofs.Ytfckgagpfpnelaa
