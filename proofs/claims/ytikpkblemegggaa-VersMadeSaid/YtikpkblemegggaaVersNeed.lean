/- Layer 8: what is needed of one object: the program's answer. -/
import Derived.Test.YtikpkblemegggaaVersAuxs
import Derived.StillTailTactics
namespace Go.Proofs.Ytikpkblemegggaa
open Go.RowKit Go.Maps
set_option linter.unusedVariables false
set_option linter.unusedSimpArgs false

theorem OwnS.setRowO {w : World} {B sz V : Nat} {e T : TypeId} {v : Value} {rows : List (List Value)} {cs0 : Array Value} (h : OwnS w B e sz v rows) (hb : w.heap[V]? = some (.cells cs0 T)) (hne : e ≠ T) (cs : Array Value) : OwnS (w.setRow V cs) B e sz v rows := by
  refine ⟨World.ownsRow.kept h.1 (setRow_grown w V cs) ?_, h.2⟩
  rcases h.1.2 with ⟨rfl, -⟩ | ⟨g, cap, cur, rfl, -, hg, -⟩
  · left; rfl
  · right
    intro e1
    have : g = V := by simpa [Value.ownBlock] using e1
    subst this
    rw [hb] at hg
    simp only [Option.some.injEq, Obj.cells.injEq] at hg
    exact hne hg.2.1.symm
def NeedAns (r : RD) (X : List Nat × NeedD × Nat) (w : World) (e : Ending) (w' : World) : Prop :=
  ∃ ad c, e = .returned (.tuple #[.agg #[.string X.2.1.file, .slice ad X.2.1.aux.length c], errV (X.2.2 : Int)]) ∧ OwnS w' w.heap.size 47 3 (.slice ad X.2.1.aux.length c) (auxRows X.2.1.aux) ∧ MapN w' r.B X.1 ∧ Kp r.B w w'
theorem NeedAns.no {r : RD} {w wx : World} {V g : Nat} {b told : List Nat} {T : TypeId} {cs0 : Array Value} {c : Nat} {v : Value} {e1 : Value} (h : DW r w V g cs0 T b told wx) (cs : Array Value) (hv : v = .agg #[.string .empty, .slice none 0 0]) (he : e1 = errV (c : Int)) :
    NeedAns r (told, .zero, c) w (.returned (.tuple #[v, e1])) (wx.setRow V cs) := by
  subst hv he
  exact ⟨none, 0, rfl, OwnS.nil _ _ _ _, (h.done cs).1, (h.done cs).2⟩

set_option maxRecDepth 100000 in
set_option maxHeartbeats 8000000 in
theorem need_any (r : RD) (w : World) (told : List Nat) (g c : Nat) (b : List Nat) (at_ : Nat) (h : r.ok w) (hm : MapN w r.B told) (hb : BRow w (some ⟨g, 0, none⟩) b) (hl : b.length = 16) (hc : 16 ≤ c) (hat : at_ < 18446744073709551616) :
    Calls Try.prog 35 #[rdV r, .slice (some ⟨g, 0, none⟩) 16 c, .int .u64 (at_ : Int)] w (NeedAns r (needF r.bs r.ps r.ss told b at_) w) := by
  have HP := Lib.hid (fun (wx : World) (hw : BRow wx (some ⟨g, 0, none⟩) b) (o n q : Nat) (hn : n ≤ 8) (ho : o + n ≤ 16) => part_any g b wx hw o n q hn (by omega))
  have HT := Lib.hid (fun (wx : World) (hw : r.ok wx) (hr : BRow wx (some ⟨g, 0, none⟩) b) (q : Nat) => by
    have h1 := hr.cut 4 4
    simp only [Option.map_some, WideShapes.add_plain, Nat.zero_add] at h1
    have e : ((b.drop 4).take 4).length = 4 := by simp; omega
    have := vtext_any r wx hw (some ⟨g, 4, none⟩) q ((b.drop 4).take 4) h1 (by omega)
    rw [e] at this
    exact this)
  have BZ : Hid (Below w.heap.size w ((w.alloc (.cells #[rdV r] 92)).alloc (.cells #[.string .empty, .slice none 0 0] 45))) := Lib.hid (((Below.refl _ _).alloc (Nat.le_refl _) _).alloc (by simp) _)
  have HD0 : Hid (DW r w (w.heap.size + 1) g #[.string .empty, .slice none 0 0] 45 b told ((w.alloc (.cells #[rdV r] 92)).alloc (.cells #[.string .empty, .slice none 0 0] 45))) := Lib.hid (by
    refine ⟨h, Kp.below BZ.out, hm.below BZ.out, ?_, hb.below BZ.out, by omega⟩
    have := heap_alloc_new (w.alloc (.cells #[rdV r] 92)) (.cells #[.string .empty, .slice none 0 0] 45)
    simpa using this)
  have HR0 : Hid (InBox ((w.alloc (.cells #[rdV r] 92)).alloc (.cells #[.string .empty, .slice none 0 0] 45)) w.heap.size (rdV r) 92) := Lib.hid ((InBox.new w _ _).alloc _)
  have n0 := numOf_two b hb.2 0
  have n2 := numOf_two b hb.2 2
  have n8 := numOf_four b hb.2 8
  have hcode := textF_code r.ss (numOf ((b.drop 4).take 4))
  unfold needF
  obtain ⟨F, hF⟩ : ∃ F, textF r.ss (numOf ((b.drop 4).take 4)) = F := ⟨_, rfl⟩
  rw [hF] at HT hcode ⊢
  rw [show b.take 2 = (b.drop 0).take 2 from rfl]
  obtain ⟨nm, tc⟩ := F
  simp only at hcode ⊢
  clear hF hm hb h
  generalize hN0 : numOf ((b.drop 0).take 2) = N0 at *
  generalize hN2 : numOf ((b.drop 2).take 2) = N2 at *
  generalize hN8 : numOf ((b.drop 8).take 4) = N8 at *
  have P0 := Lib.hid (fun (wx : World) (hw : BRow wx (some ⟨g, 0, none⟩) b) (q : Nat) => by
    have := HP.out wx hw 0 2 q (by omega) (by omega)
    rw [hN0] at this
    exact this)
  have P2 := Lib.hid (fun (wx : World) (hw : BRow wx (some ⟨g, 0, none⟩) b) (q : Nat) => by
    have := HP.out wx hw 2 2 q (by omega) (by omega)
    rw [hN2] at this
    exact this)
  have P8 := Lib.hid (fun (wx : World) (hw : BRow wx (some ⟨g, 0, none⟩) b) (q : Nat) => by
    have := HP.out wx hw 8 4 q (by omega) (by omega)
    rw [hN8] at this
    exact this)
  clear HP hN0 hN2 hN8
  have ic : (16 : Int) ≤ (c : Int) := by omega
  have hC := Lib.hid hcode
  clear hcode hc
  have HCH := Lib.hid (fun (wc w1 : World) (Rb L : Nat) (hq : AQ r wc Rb L nm N2 (told, []) w1) => chain_any r (aux_step r wc Rb L nm) (.inr (.inl rfl)) at_ N8 N2 (told, []) w1 hat (by omega) (by omega) hq)
  generalize hCX : chainV (auxStep r.ss) r.bs r.ps 16 N2 at_ N8 (told, []) = CX at *
  obtain ⟨X, hX⟩ : ∃ X, (if N0 ≠ 1 ∨ N2 = 0 then (told, NeedD.zero, 3) else if 64 < N2 then (told, NeedD.zero, 2) else if tc ≠ 0 then (told, NeedD.zero, tc) else (CX.1.1, (⟨nm, CX.1.2⟩ : NeedD), CX.2)) = X := ⟨_, rfl⟩
  rw [hX]
  have HX := Lib.hid hX
  clear hX hCX
  have HFR : Hid (∀ (wx : World) (V : Nat) (T : TypeId) (cs : Array Value), wx.heap[V]? = some (.cells cs T) → ∀ j, wx.frozen? ⟨V, j, none⟩ = false) := Lib.hid (fun wx V T cs h j => frozen_of_row wx V j _ _ h)
  unfold rdV at *
  obtain ⟨w2, hw2⟩ : ∃ w2, ((w.alloc (.cells #[.pointer (some ⟨r.R, 0, none⟩)] 92)).alloc (.cells #[.string .empty, .slice none 0 0] 45)) = w2 := ⟨_, rfl⟩
  have HFR := Lib.hid (fun (wx : World) (cs : Array Value) (h : wx.heap[w.heap.size + 1]? = some (.cells cs 45)) (j : Nat) => HFR.out wx _ _ cs h j)
  go_enter Try.func35, Try.ntmps35
  go_wp2_with fail
  rw [hw2] at HD0 HR0 BZ
  have HW2 := Lib.hid hw2
  change Calls _ _ _ ((w.alloc (.cells #[.pointer (some ⟨r.R, 0, none⟩)] 92)).alloc (.cells #[.string .empty, .slice none 0 0] 45)) _
  rw [hw2]
  clear hw2
  refine (P2.out _ HD0.out.row _).mono ?_
  rintro e w' ⟨rfl, rfl⟩
  by_cases hA : N0 = 1
  · subst hA
    by_cases hB : N2 = 0
    · have hB1 : ((N2 : Int) == 0) = true := by rw [hB]; rfl
      have HE : Hid (X = (told, .zero, 3)) := Lib.hid (by rw [← HX.out, if_pos (.inr hB)])
      clear hB
      go_wp2_with fail
      refine (P0.out _ HD0.out.row _).mono ?_
      rintro e w' ⟨rfl, rfl⟩
      have FS := Lib.hid (two_stores HD0.out.box (.string ⟨#[]⟩) (.slice none 0 0))
      have hr := fun (cs : Array Value) (j : Nat) => cell_setRow_same w2 (w.heap.size + 1) j _ cs _ _ HD0.out.box
      have r0 := hr #[.string ⟨#[]⟩, .slice none 0 0] 0
      have r1 := hr #[.string ⟨#[]⟩, .slice none 0 0] 1
      simp only [List.getElem?_toArray, List.getElem?_cons_zero, List.getElem?_cons_succ] at r0 r1
      have R0 := Lib.hid r0
      have R1 := Lib.hid r1
      clear r0 r1 hr
      have f0 := HFR.out _ _ HD0.out.box 0
      have f1 := HFR.out _ _ HD0.out.box 1
      have c0 : w2.cell? ⟨w.heap.size + 1, 0, none⟩ = some (.string .empty) := by rw [cell_of_row w2 (w.heap.size + 1) 0 _ _ _ HD0.out.box]; rfl
      have c1 : w2.cell? ⟨w.heap.size + 1, 1, none⟩ = some (.slice none 0 0) := by rw [cell_of_row w2 (w.heap.size + 1) 1 _ _ _ HD0.out.box]; rfl
      go_wp2_with fail
      rw [HE.out]
      rw [FS.out]
      refine bodyPost_ret (by simp [results, Try.results35, go_sem, R0.out, R1.out]; try rfl) rfl ?_
      exact NeedAns.no HD0.out _ rfl rfl
    · have hB1 : ((N2 : Int) == 0) = false := beq_eq_false_iff_ne.2 (by omega)
      by_cases h64 : 64 < N2
      · have h64i : (64 : Int) < (N2 : Int) := by omega
        have HE : Hid (X = (told, .zero, 2)) := Lib.hid (by rw [← HX.out, if_neg (by omega), if_pos h64])
        clear hB h64
        go_wp2_with fail
        refine (P0.out _ HD0.out.row _).mono ?_
        rintro e w' ⟨rfl, rfl⟩
        have FS := Lib.hid (two_stores HD0.out.box (.string ⟨#[]⟩) (.slice none 0 0))
        have hr := fun (cs : Array Value) (j : Nat) => cell_setRow_same w2 (w.heap.size + 1) j _ cs _ _ HD0.out.box
        have r0 := hr #[.string ⟨#[]⟩, .slice none 0 0] 0
        have r1 := hr #[.string ⟨#[]⟩, .slice none 0 0] 1
        simp only [List.getElem?_toArray, List.getElem?_cons_zero, List.getElem?_cons_succ] at r0 r1
        have R0 := Lib.hid r0
        have R1 := Lib.hid r1
        clear r0 r1 hr
        have f0 := HFR.out _ _ HD0.out.box 0
        have f1 := HFR.out _ _ HD0.out.box 1
        have c0 : w2.cell? ⟨w.heap.size + 1, 0, none⟩ = some (.string .empty) := by rw [cell_of_row w2 (w.heap.size + 1) 0 _ _ _ HD0.out.box]; rfl
        have c1 : w2.cell? ⟨w.heap.size + 1, 1, none⟩ = some (.slice none 0 0) := by rw [cell_of_row w2 (w.heap.size + 1) 1 _ _ _ HD0.out.box]; rfl
        go_wp2_with fail
        rw [HE.out]
        rw [FS.out]
        refine bodyPost_ret (by simp [results, Try.results35, go_sem, R0.out, R1.out]; try rfl) rfl ?_
        exact NeedAns.no HD0.out _ rfl rfl
      · have h64i : ¬ (64 : Int) < (N2 : Int) := by omega
        have HE1 : Hid (X = if tc ≠ 0 then (told, NeedD.zero, tc) else (CX.1.1, (⟨nm, CX.1.2⟩ : NeedD), CX.2)) := Lib.hid (by rw [← HX.out, if_neg (by omega), if_neg h64])
        have hn64 : N2 ≤ 64 := by omega
        have HN64 := Lib.hid hn64
        clear hB h64 hn64
        go_wp2_with fail
        refine (P0.out _ HD0.out.row _).mono ?_
        rintro e w' ⟨rfl, rfl⟩
        have cR := HR0.out.cell
        go_wp2_with fail
        go_quiet ((go_at_call 48; exact Calls.mono (HT.out _ (HD0.out.below (below_drewN (Below.refl _ _) _)).ok (HD0.out.below (below_drewN (Below.refl _ _) _)).row _) (fun e w' h => ⟨h.1, by obtain ⟨m, hm⟩ := h.2; exact ⟨_ + m, by rw [hm, World.drewN_drewN]⟩⟩)))
        have HD2 := Lib.hid (HD0.out.below (below_drewN (Below.refl _ _) nq))
        have HR2 := Lib.hid (HR0.out.below (below_drewN (Below.refl _ _) nq))
        clear cR HT P0 P2
        generalize w2.drewN nq = w3 at *
        by_cases htc : tc = 0
        · subst htc
          have HE : Hid (X = (CX.1.1, (⟨nm, CX.1.2⟩ : NeedD), CX.2)) := Lib.hid (by rw [HE1.out, if_neg (by simp)])
          clear HE1
          rw [errV0x]
          go_wp2_with fail
          have W4B : Hid (Below w3.heap.size w3 (w3.alloc (.cells #[.string nm, .slice none 0 0] 45)).drew) := Lib.hid (((Below.refl _ _).alloc (Nat.le_refl _) _).drew)
          have HQ : Hid (AQ r w3 w.heap.size w3.heap.size nm N2 (told, []) (w3.alloc (.cells #[.string nm, .slice none 0 0] 45)).drew) := Lib.hid (by
            refine ⟨⟨HD2.out.ok, HD2.out.map.below W4B.out, Kp.below W4B.out, HR2.out.below W4B.out, ⟨none, 0, ?_, OwnS.nil _ _ _ _⟩, Nat.le_refl _, Nat.ne_of_lt HR2.out.lt⟩, by simpa using HN64.out⟩
            exact heap_alloc_new w3 (.cells #[.string nm, .slice none 0 0] 45))
          have HCALL := Lib.hid (HCH.out _ _ _ _ HQ.out)
          have cR : (w3.alloc (.cells #[.string nm, .slice none 0 0] 45)).drew.cell? ⟨w.heap.size, 0, none⟩ = some (.pointer (some ⟨r.R, 0, none⟩)) := (HR2.out.below W4B.out).cell
          have HPN := Lib.hid ((P8.out _ (HD2.out.below W4B.out).row (c - 8)).mono (fun e w' h => And.intro h.1 h.2.symm))
          have ec8 : ((c : Int) - 8).toNat = c - 8 := by omega
          have ic8 : (12 : Int) ≤ (c : Int) := by omega
          have hc8 : ¬ c = 8 := by omega
          refine wp_region_still_tail 7 (by kernel_rfl) (by kernel_rfl) ?_
          simp only [List.take_succ_cons, List.take_zero, List.drop_succ_cons, List.drop_zero]
          change wpStill _ _ (World.drew (w3.alloc (.cells #[.string nm, .slice none 0 0] 45))) _ _ _
          still_step
          still_step
          still_step
          still_step
          have hpn := HPN.out
          still_call hpn
          still_step
          still_step
          refine wpStill_nil ?_
          change wpList _ _ _ _ _ (World.drew (w3.alloc (.cells #[.string nm, .slice none 0 0] 45)))
          go_wp2_with fail
          refine HCALL.out.mono ?_
          rintro e w5 ⟨rfl, k5, hlk, hroom⟩
          have HD5 := Lib.hid (HD2.out.on hlk.kp hlk.map)
          obtain ⟨la, lc, hbox, hl5⟩ := hlk.lbox
          rw [auxRows_length] at hbox hl5
          have cb0 : w5.cell? ⟨w3.heap.size, 0, none⟩ = some (.string nm) := by rw [cell_of_row w5 w3.heap.size 0 _ _ _ hbox]; rfl
          have cb1 : w5.cell? ⟨w3.heap.size, 1, none⟩ = some (.slice la CX.1.2.length lc) := by rw [cell_of_row w5 w3.heap.size 1 _ _ _ hbox]; rfl
          have HL5 := Lib.hid (OwnS.mono hl5 HD2.out.kp.size)
          clear hlk hroom hbox hl5 HCALL HPN cR
          have FS := Lib.hid (two_stores HD5.out.box (.string nm) (.slice la CX.1.2.length lc))
          have hr := fun (cs : Array Value) (j : Nat) => cell_setRow_same w5 (w.heap.size + 1) j _ cs _ _ HD5.out.box
          have r0 := hr #[.string nm, .slice la CX.1.2.length lc] 0
          have r1 := hr #[.string nm, .slice la CX.1.2.length lc] 1
          simp only [List.getElem?_toArray, List.getElem?_cons_zero, List.getElem?_cons_succ] at r0 r1
          have R0 := Lib.hid r0
          have R1 := Lib.hid r1
          clear r0 r1 hr
          have f0 := HFR.out _ _ HD5.out.box 0
          have f1 := HFR.out _ _ HD5.out.box 1
          have c0 : w5.cell? ⟨w.heap.size + 1, 0, none⟩ = some (.string .empty) := by rw [cell_of_row w5 (w.heap.size + 1) 0 _ _ _ HD5.out.box]; rfl
          have c1 : w5.cell? ⟨w.heap.size + 1, 1, none⟩ = some (.slice none 0 0) := by rw [cell_of_row w5 (w.heap.size + 1) 1 _ _ _ HD5.out.box]; rfl
          go_wp2_with fail
          rw [HE.out]
          rw [FS.out]
          refine bodyPost_ret (by simp [results, Try.results35, go_sem, R0.out, R1.out]; try rfl) rfl ?_
          exact ⟨la, lc, rfl, HL5.out.setRowO HD5.out.box (by decide) _, (HD5.out.done _).1, (HD5.out.done _).2⟩
        · have HE : Hid (X = (told, .zero, tc)) := Lib.hid (by rw [HE1.out, if_pos htc])
          rw [errVp (by omega)]
          have FS := Lib.hid (two_stores HD2.out.box (.string ⟨#[]⟩) (.slice none 0 0))
          have hr := fun (cs : Array Value) (j : Nat) => cell_setRow_same w3 (w.heap.size + 1) j _ cs _ _ HD2.out.box
          have r0 := hr #[.string ⟨#[]⟩, .slice none 0 0] 0
          have r1 := hr #[.string ⟨#[]⟩, .slice none 0 0] 1
          simp only [List.getElem?_toArray, List.getElem?_cons_zero, List.getElem?_cons_succ] at r0 r1
          have R0 := Lib.hid r0
          have R1 := Lib.hid r1
          clear r0 r1 hr
          have f0 := HFR.out _ _ HD2.out.box 0
          have f1 := HFR.out _ _ HD2.out.box 1
          have c0 : w3.cell? ⟨w.heap.size + 1, 0, none⟩ = some (.string .empty) := by rw [cell_of_row w3 (w.heap.size + 1) 0 _ _ _ HD2.out.box]; rfl
          have c1 : w3.cell? ⟨w.heap.size + 1, 1, none⟩ = some (.slice none 0 0) := by rw [cell_of_row w3 (w.heap.size + 1) 1 _ _ _ HD2.out.box]; rfl
          go_wp2_with fail
          rw [HE.out]
          rw [FS.out]
          refine bodyPost_ret (by simp [results, Try.results35, go_sem, R0.out, R1.out]; try rfl) rfl ?_
          exact NeedAns.no HD2.out _ rfl (errVp (by omega)).symm
  · have hA1 : ((N0 : Int) != 1) = true := by
      rw [bne_iff_ne]; omega
    have HE : Hid (X = (told, .zero, 3)) := Lib.hid (by rw [← HX.out, if_pos (.inl hA)])
    clear hA
    go_wp2_with fail
    refine (P0.out _ HD0.out.row _).mono ?_
    rintro e w' ⟨rfl, rfl⟩
    have FS := Lib.hid (two_stores HD0.out.box (.string ⟨#[]⟩) (.slice none 0 0))
    have hr := fun (cs : Array Value) (j : Nat) => cell_setRow_same w2 (w.heap.size + 1) j _ cs _ _ HD0.out.box
    have r0 := hr #[.string ⟨#[]⟩, .slice none 0 0] 0
    have r1 := hr #[.string ⟨#[]⟩, .slice none 0 0] 1
    simp only [List.getElem?_toArray, List.getElem?_cons_zero, List.getElem?_cons_succ] at r0 r1
    have R0 := Lib.hid r0
    have R1 := Lib.hid r1
    clear r0 r1 hr
    have f0 := HFR.out _ _ HD0.out.box 0
    have f1 := HFR.out _ _ HD0.out.box 1
    have c0 : w2.cell? ⟨w.heap.size + 1, 0, none⟩ = some (.string .empty) := by rw [cell_of_row w2 (w.heap.size + 1) 0 _ _ _ HD0.out.box]; rfl
    have c1 : w2.cell? ⟨w.heap.size + 1, 1, none⟩ = some (.slice none 0 0) := by rw [cell_of_row w2 (w.heap.size + 1) 1 _ _ _ HD0.out.box]; rfl
    go_wp2_with fail
    rw [HE.out]
    rw [FS.out]
    refine bodyPost_ret (by simp [results, Try.results35, go_sem, R0.out, R1.out]; try rfl) rfl ?_
    exact NeedAns.no HD0.out _ rfl rfl
end Go.Proofs.Ytikpkblemegggaa
