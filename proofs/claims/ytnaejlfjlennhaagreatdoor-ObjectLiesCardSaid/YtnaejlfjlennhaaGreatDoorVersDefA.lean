/- Layer 8: the versions that are needed of one object, read one behind the other. -/
import Derived.Test.YtnaejlfjlennhaaGreatDoorVersAux
import Derived.StillTailTactics
import Derived.Tactics
namespace Go.Proofs.YtnaejlfjlennhaaGreatDoor
open Go.RowKit Go.Maps
set_option linter.unusedVariables false
set_option linter.unusedSimpArgs false

theorem rowAux : RowSlice Tryz.prog 208 232 (.agg #[.int .i64 0, .bool false, .string .empty]) 3 32 := ⟨Tryz.underlying208, by kernel_rfl, rfl, by decide⟩
def auxRows (l : List AuxD) : List (List Value) := l.map auxCells
theorem auxRows_length (l : List AuxD) : (auxRows l).length = l.length := by simp [auxRows]
theorem auxRows_snoc (l : List AuxD) (x : AuxD) : auxRows (l ++ [x]) = auxRows l ++ [auxCells x] := by simp [auxRows]
theorem auxF_small (s told b : List Nat) : (auxF s told b).2.2 < 30 := by
  unfold auxF
  split
  · exact textF_small _ _
  · split
    · show 3 < 30; decide
    · split
      · show 5 < 30; decide
      · show 0 < 30; decide
def AQ (r : RD) (wc : World) (Rb L : Nat) (file : ByteArray) (k : Nat) (s : List Nat × List AuxD) (w : World) : Prop :=
  LK r s.1 wc Rb L #[.string file] 210 232 3 (auxRows s.2) w ∧ s.2.length + k ≤ 64

set_option maxRecDepth 100000 in
set_option maxHeartbeats 4000000 in
theorem aux_step (r : RD) (wc : World) (Rb L : Nat) (file : ByteArray) : Stepper r (auxStep r.ss) 16 111 (.pointer (some ⟨Rb, 0, none⟩)) (.pointer (some ⟨L, 0, none⟩)) (AQ r wc Rb L file) := by
  refine ⟨fun args w => rfl, fun h => h.1.ok, fun h hb => ⟨h.1.below hb, h.2⟩, fun s b a => auxF_small _ _ _, ?_⟩
  intro k s w1 w b at_ c ad hq hbel hown hb256 hlen hat
  obtain ⟨told, l⟩ := s
  have hw := hq.1.below hbel
  obtain ⟨g, rfl⟩ := hown.shape2v (by omega)
  have hcap := hown.cap2v
  have hrow : BRow w (some ⟨g, 0, none⟩) b := ⟨hown.row2v, hb256⟩
  have HA := Lib.hid (aux_any r w told g c b hw.ok hw.map hrow hlen (by omega))
  unfold auxStep
  simp only at HA hw ⊢
  generalize auxF r.ss told b = X at *
  obtain ⟨told2, ⟨x, wk, nm⟩, cd⟩ := X
  simp only [auxCells] at HA ⊢
  have HLK := Lib.hid hw
  have HROOM : l.length + (k + 1) ≤ 64 := hq.2
  have HO := Lib.hid hown
  have cR := hw.rbox.cell
  unfold rdV at cR HA
  have hcap8 : (16 : Int) ≤ (c : Int) := by omega
  have HLEN := Lib.hid hlen
  have HISM := Lib.hid hw.map.isMap
  rw [hlen]
  clear hw hown hrow hq hbel hb256 hlen
  go_enter Tryz.func111, Tryz.ntmps111
  go_wp2_with fail
  refine HA.out.mono ?_
  rintro e w2 ⟨he, hm2, hk2⟩
  replace he : e = .returned (.tuple #[.agg #[.int .i64 (x : Int), .bool wk, .string nm], errV (cd : Int)]) := he
  subst he
  have HK2 := Lib.hid (HLK.out.turned hk2 hm2)
  have HO2 : Hid (OwnI w2 w1.heap.size 5 .u8 (.slice (some ⟨g, 0, none⟩) b.length c) (toI b)) := Lib.hid (own_kp HO.out hk2 HISM.out)
  clear hk2 hm2 HA HLK HO cR HISM
  have BA : Hid (Below w2.heap.size w2 (w2.alloc (.cells #[.int .i64 (x : Int), .bool wk, .string nm] 232))) := Lib.hid ((Below.refl _ _).alloc (Nat.le_refl _) _)
  have HK3 := Lib.hid (HK2.out.below BA.out)
  have HO3 := Lib.hid (OwnI.below HO2.out BA.out)
  obtain ⟨la, lc, hbox, hl⟩ := HK3.out.lbox
  rw [auxRows_length] at hbox hl
  have cL := hbox.cell
  simp only [List.size_toArray, List.length_cons, List.length_nil, Nat.zero_add] at cL
  have HBX := Lib.hid hbox
  have HL := Lib.hid hl
  have HBS := Lib.hid HK3.out.kp.size
  obtain ⟨la0, lc0, hbox0, hl0⟩ := HK2.out.lbox
  clear hbox hl
  rw [auxRows_length] at hbox0 hl0
  have HL0 := Lib.hid hl0
  clear hl0 hbox0
  go_wp2_with (at_builtin; (refine wpList_grow_row rfl (.tmp 16) (.tmp 18) rowAux rfl wc.heap.size (.slice la l.length lc) (auxRows l) l.length [.int .i64 (x : Int), .bool wk, .string nm] rfl (by change Value.slice (some ⟨w2.heap.size + 1, 0, none⟩) 1 1 = _; simp) (auxRows_length l) rfl (by intro u hu; simp only [List.mem_cons, List.not_mem_nil, or_false] at hu; rcases hu with rfl | rfl | rfl <;> rfl) HL.out (by unfold maxLen; omega) (by omega) HBS.out ?_); intro la2 lc2 w4 ho4 hg4; have O4 := Lib.hid ho4; have G4 := Lib.hid hg4; have cb4 := ((HBX.out.alloc _).grown hg4 (HBX.out.apart HL.out.1 (by decide))).cell; have cf4 := ((HBX.out.alloc _).grown hg4 (HBX.out.apart HL.out.1 (by decide))).free 1; simp only [List.size_toArray, List.length_cons, List.length_nil, Nat.zero_add] at cb4; clear ho4 hg4)
  go_ret
  have hpush := HK3.out.push (T := 210) (q := auxCells ⟨x, wk, nm⟩) (by rw [auxRows_length]; exact HBX.out) (by rw [auxRows_length]; exact HL.out) _ (by rw [auxRows_length]; exact G4.out) (by rw [auxRows_length]; exact O4.out) (by decide) (by decide)
  rw [auxRows_length, ← auxRows_snoc] at hpush
  refine ⟨rfl, ⟨hpush, by rw [List.length_append]; simp only [List.length_cons, List.length_nil]; omega⟩, ?_⟩
  have ho2 := HO3.out
  rw [HLEN.out] at ho2
  exact LK.keep (T := 210) (rows := auxRows l) (by rw [auxRows_length]; exact HBX.out) (by rw [auxRows_length]; exact HL.out) _ (by rw [auxRows_length]; exact G4.out) ho2 (by decide) (by decide) (by decide) _ _
end Go.Proofs.YtnaejlfjlennhaaGreatDoor
/- Layer 8: what is needed of one object: the program's answer. -/
namespace Go.Proofs.YtnaejlfjlennhaaGreatDoor
open Go.RowKit Go.Maps
set_option linter.unusedVariables false
set_option linter.unusedSimpArgs false

theorem OwnS.setRowO {w : World} {B sz V : Nat} {e T : TypeId} {v : Value} {rows : List (List Value)} {cs0 : Array Value} (h : OwnS w B e sz v rows) (hb : w.heap[V]? = some (.cells cs0 T)) (hne : e ≠ T) (cs : Array Value) : OwnS (w.setRow V cs) B e sz v rows := by
  refine ⟨World.ownsRow.kept h.1 (setRow_grown w V cs) ?_, h.2⟩
  rcases h.1.2 with ⟨rfl, -⟩ | ⟨g, cap, cur, rfl, -, hg, -⟩
  · left; rfl
  · right
    intro e1
    have : g = V := by simpa [Value.ownBlock] using e1
    subst this
    rw [hb] at hg
    simp only [Option.some.injEq, Obj.cells.injEq] at hg
    exact hne hg.2.1.symm
def NeedAns (r : RD) (X : List Nat × NeedD × Nat) (w : World) (e : Ending) (w' : World) : Prop :=
  ∃ ad c, e = .returned (.tuple #[.agg #[.string X.2.1.file, .slice ad X.2.1.aux.length c], errV (X.2.2 : Int)]) ∧ OwnS w' w.heap.size 232 3 (.slice ad X.2.1.aux.length c) (auxRows X.2.1.aux) ∧ MapN w' r.B X.1 ∧ Kp r.B w w'
theorem NeedAns.no {r : RD} {w wx : World} {V g : Nat} {b told : List Nat} {T : TypeId} {cs0 : Array Value} {c : Nat} {v : Value} {e1 : Value} (h : DW r w V g cs0 T b told wx) (cs : Array Value) (hv : v = .agg #[.string .empty, .slice none 0 0]) (he : e1 = errV (c : Int)) :
    NeedAns r (told, .zero, c) w (.returned (.tuple #[v, e1])) (wx.setRow V cs) := by
  subst hv he
  exact ⟨none, 0, rfl, OwnS.nil _ _ _ _, (h.done cs).1, (h.done cs).2⟩

set_option maxRecDepth 100000 in
set_option maxHeartbeats 8000000 in
theorem need_any (r : RD) (w : World) (told : List Nat) (g c : Nat) (b : List Nat) (at_ : Nat) (h : r.ok w) (hm : MapN w r.B told) (hb : BRow w (some ⟨g, 0, none⟩) b) (hl : b.length = 16) (hc : 16 ≤ c) (hat : at_ < 18446744073709551616) :
    Calls Tryz.prog 95 #[rdV r, .slice (some ⟨g, 0, none⟩) 16 c, .int .u64 (at_ : Int)] w (NeedAns r (needF r.bs r.ps r.ss told b at_) w) := by
  have HP := Lib.hid (fun (wx : World) (hw : BRow wx (some ⟨g, 0, none⟩) b) (o n q : Nat) (hn : n ≤ 8) (ho : o + n ≤ 16) => part_any g b wx hw o n q hn (by omega))
  have HT := Lib.hid (fun (wx : World) (hw : r.ok wx) (hr : BRow wx (some ⟨g, 0, none⟩) b) (q : Nat) => by
    have h1 := hr.cut 4 4
    simp only [Option.map_some, WideShapes.add_plain, Nat.zero_add] at h1
    have e : ((b.drop 4).take 4).length = 4 := by simp; omega
    have := vtext_any r wx hw (some ⟨g, 4, none⟩) q ((b.drop 4).take 4) h1 (by omega)
    rw [e] at this
    exact this)
  have BZ : Hid (Below w.heap.size w ((w.alloc (.cells #[rdV r] 201)).alloc (.cells #[.string .empty, .slice none 0 0] 210))) := Lib.hid (((Below.refl _ _).alloc (Nat.le_refl _) _).alloc (by simp) _)
  have HD0 : Hid (DW r w (w.heap.size + 1) g #[.string .empty, .slice none 0 0] 210 b told ((w.alloc (.cells #[rdV r] 201)).alloc (.cells #[.string .empty, .slice none 0 0] 210))) := Lib.hid (by
    refine ⟨h, Kp.below BZ.out, hm.below BZ.out, ?_, hb.below BZ.out, by omega⟩
    have := heap_alloc_new (w.alloc (.cells #[rdV r] 201)) (.cells #[.string .empty, .slice none 0 0] 210)
    simpa using this)
  have HR0 : Hid (InBox ((w.alloc (.cells #[rdV r] 201)).alloc (.cells #[.string .empty, .slice none 0 0] 210)) w.heap.size (rdV r) 201) := Lib.hid ((InBox.new w _ _).alloc _)
  have n0 := numOf_two b hb.2 0
  have n2 := numOf_two b hb.2 2
  have n8 := numOf_four b hb.2 8
  have hcode := textF_code r.ss (numOf ((b.drop 4).take 4))
  unfold needF
  obtain ⟨F, hF⟩ : ∃ F, textF r.ss (numOf ((b.drop 4).take 4)) = F := ⟨_, rfl⟩
  rw [hF] at HT hcode ⊢
  rw [show b.take 2 = (b.drop 0).take 2 from rfl]
  obtain ⟨nm, tc⟩ := F
  simp only at hcode ⊢
  clear hF hm hb h
  generalize hN0 : numOf ((b.drop 0).take 2) = N0 at *
  generalize hN2 : numOf ((b.drop 2).take 2) = N2 at *
  generalize hN8 : numOf ((b.drop 8).take 4) = N8 at *
  have P0 := Lib.hid (fun (wx : World) (hw : BRow wx (some ⟨g, 0, none⟩) b) (q : Nat) => by
    have := HP.out wx hw 0 2 q (by omega) (by omega)
    rw [hN0] at this
    exact this)
  have P2 := Lib.hid (fun (wx : World) (hw : BRow wx (some ⟨g, 0, none⟩) b) (q : Nat) => by
    have := HP.out wx hw 2 2 q (by omega) (by omega)
    rw [hN2] at this
    exact this)
  have P8 := Lib.hid (fun (wx : World) (hw : BRow wx (some ⟨g, 0, none⟩) b) (q : Nat) => by
    have := HP.out wx hw 8 4 q (by omega) (by omega)
    rw [hN8] at this
    exact this)
  clear HP hN0 hN2 hN8
  have ic : (16 : Int) ≤ (c : Int) := by omega
  have hC := Lib.hid hcode
  clear hcode hc
  have HCH := Lib.hid (fun (wc w1 : World) (Rb L : Nat) (hq : AQ r wc Rb L nm N2 (told, []) w1) => chain_any r (aux_step r wc Rb L nm) (.inr (.inl rfl)) at_ N8 N2 (told, []) w1 hat (by omega) (by omega) hq)
  generalize hCX : chainV (auxStep r.ss) r.bs r.ps 16 N2 at_ N8 (told, []) = CX at *
  obtain ⟨X, hX⟩ : ∃ X, (if N0 ≠ 1 ∨ N2 = 0 then (told, NeedD.zero, 3) else if 64 < N2 then (told, NeedD.zero, 2) else if tc ≠ 0 then (told, NeedD.zero, tc) else (CX.1.1, (⟨nm, CX.1.2⟩ : NeedD), CX.2)) = X := ⟨_, rfl⟩
  rw [hX]
  have HX := Lib.hid hX
  clear hX hCX
  have HFR : Hid (∀ (wx : World) (V : Nat) (T : TypeId) (cs : Array Value), wx.heap[V]? = some (.cells cs T) → ∀ j, wx.frozen? ⟨V, j, none⟩ = false) := Lib.hid (fun wx V T cs h j => frozen_of_row wx V j _ _ h)
  unfold rdV at *
  obtain ⟨w2, hw2⟩ : ∃ w2, ((w.alloc (.cells #[.pointer (some ⟨r.R, 0, none⟩)] 201)).alloc (.cells #[.string .empty, .slice none 0 0] 210)) = w2 := ⟨_, rfl⟩
  have HFR := Lib.hid (fun (wx : World) (cs : Array Value) (h : wx.heap[w.heap.size + 1]? = some (.cells cs 210)) (j : Nat) => HFR.out wx _ _ cs h j)
  go_enter Tryz.func95, Tryz.ntmps95
  go_wp2_with fail
  rw [hw2] at HD0 HR0 BZ
  have HW2 := Lib.hid hw2
  change Calls _ _ _ ((w.alloc (.cells #[.pointer (some ⟨r.R, 0, none⟩)] 201)).alloc (.cells #[.string .empty, .slice none 0 0] 210)) _
  rw [hw2]
  clear hw2
  refine (P2.out _ HD0.out.row _).mono ?_
  rintro e w' ⟨rfl, rfl⟩
  by_cases hA : N0 = 1
  · subst hA
    by_cases hB : N2 = 0
    · have hB1 : ((N2 : Int) == 0) = true := by rw [hB]; rfl
      have HE : Hid (X = (told, .zero, 3)) := Lib.hid (by rw [← HX.out, if_pos (.inr hB)])
      clear hB
      go_wp2_with fail
      refine (P0.out _ HD0.out.row _).mono ?_
      rintro e w' ⟨rfl, rfl⟩
      have FS := Lib.hid (two_stores HD0.out.box (.string ⟨#[]⟩) (.slice none 0 0))
      have hr := fun (cs : Array Value) (j : Nat) => cell_setRow_same w2 (w.heap.size + 1) j _ cs _ _ HD0.out.box
      have r0 := hr #[.string ⟨#[]⟩, .slice none 0 0] 0
      have r1 := hr #[.string ⟨#[]⟩, .slice none 0 0] 1
      simp only [List.getElem?_toArray, List.getElem?_cons_zero, List.getElem?_cons_succ] at r0 r1
      have R0 := Lib.hid r0
      have R1 := Lib.hid r1
      clear r0 r1 hr
      have f0 := HFR.out _ _ HD0.out.box 0
      have f1 := HFR.out _ _ HD0.out.box 1
      have c0 : w2.cell? ⟨w.heap.size + 1, 0, none⟩ = some (.string .empty) := by rw [cell_of_row w2 (w.heap.size + 1) 0 _ _ _ HD0.out.box]; rfl
      have c1 : w2.cell? ⟨w.heap.size + 1, 1, none⟩ = some (.slice none 0 0) := by rw [cell_of_row w2 (w.heap.size + 1) 1 _ _ _ HD0.out.box]; rfl
      go_wp2_with fail
      rw [HE.out]
      rw [FS.out]
      refine bodyPost_ret (by simp [results, Tryz.results95, go_sem, R0.out, R1.out]; try rfl) rfl ?_
      exact NeedAns.no HD0.out _ rfl rfl
    · have hB1 : ((N2 : Int) == 0) = false := beq_eq_false_iff_ne.2 (by omega)
      by_cases h64 : 64 < N2
      · have h64i : (64 : Int) < (N2 : Int) := by omega
        have HE : Hid (X = (told, .zero, 2)) := Lib.hid (by rw [← HX.out, if_neg (by omega), if_pos h64])
        clear hB h64
        go_wp2_with fail
        refine (P0.out _ HD0.out.row _).mono ?_
        rintro e w' ⟨rfl, rfl⟩
        have FS := Lib.hid (two_stores HD0.out.box (.string ⟨#[]⟩) (.slice none 0 0))
        have hr := fun (cs : Array Value) (j : Nat) => cell_setRow_same w2 (w.heap.size + 1) j _ cs _ _ HD0.out.box
        have r0 := hr #[.string ⟨#[]⟩, .slice none 0 0] 0
        have r1 := hr #[.string ⟨#[]⟩, .slice none 0 0] 1
        simp only [List.getElem?_toArray, List.getElem?_cons_zero, List.getElem?_cons_succ] at r0 r1
        have R0 := Lib.hid r0
        have R1 := Lib.hid r1
        clear r0 r1 hr
        have f0 := HFR.out _ _ HD0.out.box 0
        have f1 := HFR.out _ _ HD0.out.box 1
        have c0 : w2.cell? ⟨w.heap.size + 1, 0, none⟩ = some (.string .empty) := by rw [cell_of_row w2 (w.heap.size + 1) 0 _ _ _ HD0.out.box]; rfl
        have c1 : w2.cell? ⟨w.heap.size + 1, 1, none⟩ = some (.slice none 0 0) := by rw [cell_of_row w2 (w.heap.size + 1) 1 _ _ _ HD0.out.box]; rfl
        go_wp2_with fail
        rw [HE.out]
        rw [FS.out]
        refine bodyPost_ret (by simp [results, Tryz.results95, go_sem, R0.out, R1.out]; try rfl) rfl ?_
        exact NeedAns.no HD0.out _ rfl rfl
      · have h64i : ¬ (64 : Int) < (N2 : Int) := by omega
        have HE1 : Hid (X = if tc ≠ 0 then (told, NeedD.zero, tc) else (CX.1.1, (⟨nm, CX.1.2⟩ : NeedD), CX.2)) := Lib.hid (by rw [← HX.out, if_neg (by omega), if_neg h64])
        have hn64 : N2 ≤ 64 := by omega
        have HN64 := Lib.hid hn64
        clear hB h64 hn64
        go_wp2_with fail
        refine (P0.out _ HD0.out.row _).mono ?_
        rintro e w' ⟨rfl, rfl⟩
        have cR := HR0.out.cell
        go_wp2_with fail
        go_quiet ((go_at_call 109; exact Calls.mono (HT.out _ (HD0.out.below (below_drewN (Below.refl _ _) _)).ok (HD0.out.below (below_drewN (Below.refl _ _) _)).row _) (fun e w' h => ⟨h.1, by obtain ⟨m, hm⟩ := h.2; exact ⟨_ + m, by rw [hm, World.drewN_drewN]⟩⟩)))
        have HD2 := Lib.hid (HD0.out.below (below_drewN (Below.refl _ _) nq))
        have HR2 := Lib.hid (HR0.out.below (below_drewN (Below.refl _ _) nq))
        clear cR HT P0 P2
        generalize w2.drewN nq = w3 at *
        by_cases htc : tc = 0
        · subst htc
          have HE : Hid (X = (CX.1.1, (⟨nm, CX.1.2⟩ : NeedD), CX.2)) := Lib.hid (by rw [HE1.out, if_neg (by simp)])
          clear HE1
          rw [errV0x]
          go_wp2_with fail
          have W4B : Hid (Below w3.heap.size w3 (w3.alloc (.cells #[.string nm, .slice none 0 0] 210)).drew) := Lib.hid (((Below.refl _ _).alloc (Nat.le_refl _) _).drew)
          have HQ : Hid (AQ r w3 w.heap.size w3.heap.size nm N2 (told, []) (w3.alloc (.cells #[.string nm, .slice none 0 0] 210)).drew) := Lib.hid (by
            refine ⟨⟨HD2.out.ok, HD2.out.map.below W4B.out, Kp.below W4B.out, HR2.out.below W4B.out, ⟨none, 0, ?_, OwnS.nil _ _ _ _⟩, Nat.le_refl _, Nat.ne_of_lt HR2.out.lt⟩, by simpa using HN64.out⟩
            exact heap_alloc_new w3 (.cells #[.string nm, .slice none 0 0] 210))
          have HCALL := Lib.hid (HCH.out _ _ _ _ HQ.out)
          have cR : (w3.alloc (.cells #[.string nm, .slice none 0 0] 210)).drew.cell? ⟨w.heap.size, 0, none⟩ = some (.pointer (some ⟨r.R, 0, none⟩)) := (HR2.out.below W4B.out).cell
          have HPN := Lib.hid ((P8.out _ (HD2.out.below W4B.out).row (c - 8)).mono (fun e w' h => And.intro h.1 h.2.symm))
          have ec8 : ((c : Int) - 8).toNat = c - 8 := by omega
          have ic8 : (12 : Int) ≤ (c : Int) := by omega
          have hc8 : ¬ c = 8 := by omega
          refine wp_region_still_tail 7 (by kernel_rfl) (by kernel_rfl) ?_
          simp only [List.take_succ_cons, List.take_zero, List.drop_succ_cons, List.drop_zero]
          change wpStill _ _ (World.drew (w3.alloc (.cells #[.string nm, .slice none 0 0] 210))) _ _ _
          still_step
          still_step
          still_step
          still_step
          have hpn := HPN.out
          still_call hpn
          still_step
          still_step
          refine wpStill_nil ?_
          change wpList _ _ _ _ _ (World.drew (w3.alloc (.cells #[.string nm, .slice none 0 0] 210)))
          go_wp2_with fail
          refine HCALL.out.mono ?_
          rintro e w5 ⟨rfl, k5, hlk, hroom⟩
          have HD5 := Lib.hid (HD2.out.on hlk.kp hlk.map)
          obtain ⟨la, lc, hbox, hl5⟩ := hlk.lbox
          rw [auxRows_length] at hbox hl5
          have cb0 : w5.cell? ⟨w3.heap.size, 0, none⟩ = some (.string nm) := by rw [cell_of_row w5 w3.heap.size 0 _ _ _ hbox]; rfl
          have cb1 : w5.cell? ⟨w3.heap.size, 1, none⟩ = some (.slice la CX.1.2.length lc) := by rw [cell_of_row w5 w3.heap.size 1 _ _ _ hbox]; rfl
          have HL5 := Lib.hid (OwnS.mono hl5 HD2.out.kp.size)
          clear hlk hroom hbox hl5 HCALL HPN cR
          have FS := Lib.hid (two_stores HD5.out.box (.string nm) (.slice la CX.1.2.length lc))
          have hr := fun (cs : Array Value) (j : Nat) => cell_setRow_same w5 (w.heap.size + 1) j _ cs _ _ HD5.out.box
          have r0 := hr #[.string nm, .slice la CX.1.2.length lc] 0
          have r1 := hr #[.string nm, .slice la CX.1.2.length lc] 1
          simp only [List.getElem?_toArray, List.getElem?_cons_zero, List.getElem?_cons_succ] at r0 r1
          have R0 := Lib.hid r0
          have R1 := Lib.hid r1
          clear r0 r1 hr
          have f0 := HFR.out _ _ HD5.out.box 0
          have f1 := HFR.out _ _ HD5.out.box 1
          have c0 : w5.cell? ⟨w.heap.size + 1, 0, none⟩ = some (.string .empty) := by rw [cell_of_row w5 (w.heap.size + 1) 0 _ _ _ HD5.out.box]; rfl
          have c1 : w5.cell? ⟨w.heap.size + 1, 1, none⟩ = some (.slice none 0 0) := by rw [cell_of_row w5 (w.heap.size + 1) 1 _ _ _ HD5.out.box]; rfl
          go_wp2_with fail
          rw [HE.out]
          rw [FS.out]
          refine bodyPost_ret (by simp [results, Tryz.results95, go_sem, R0.out, R1.out]; try rfl) rfl ?_
          exact ⟨la, lc, rfl, HL5.out.setRowO HD5.out.box (by decide) _, (HD5.out.done _).1, (HD5.out.done _).2⟩
        · have HE : Hid (X = (told, .zero, tc)) := Lib.hid (by rw [HE1.out, if_pos htc])
          rw [errVp (by omega)]
          have FS := Lib.hid (two_stores HD2.out.box (.string ⟨#[]⟩) (.slice none 0 0))
          have hr := fun (cs : Array Value) (j : Nat) => cell_setRow_same w3 (w.heap.size + 1) j _ cs _ _ HD2.out.box
          have r0 := hr #[.string ⟨#[]⟩, .slice none 0 0] 0
          have r1 := hr #[.string ⟨#[]⟩, .slice none 0 0] 1
          simp only [List.getElem?_toArray, List.getElem?_cons_zero, List.getElem?_cons_succ] at r0 r1
          have R0 := Lib.hid r0
          have R1 := Lib.hid r1
          clear r0 r1 hr
          have f0 := HFR.out _ _ HD2.out.box 0
          have f1 := HFR.out _ _ HD2.out.box 1
          have c0 : w3.cell? ⟨w.heap.size + 1, 0, none⟩ = some (.string .empty) := by rw [cell_of_row w3 (w.heap.size + 1) 0 _ _ _ HD2.out.box]; rfl
          have c1 : w3.cell? ⟨w.heap.size + 1, 1, none⟩ = some (.slice none 0 0) := by rw [cell_of_row w3 (w.heap.size + 1) 1 _ _ _ HD2.out.box]; rfl
          go_wp2_with fail
          rw [HE.out]
          rw [FS.out]
          refine bodyPost_ret (by simp [results, Tryz.results95, go_sem, R0.out, R1.out]; try rfl) rfl ?_
          exact NeedAns.no HD2.out _ rfl (errVp (by omega)).symm
  · have hA1 : ((N0 : Int) != 1) = true := by
      rw [bne_iff_ne]; omega
    have HE : Hid (X = (told, .zero, 3)) := Lib.hid (by rw [← HX.out, if_pos (.inl hA)])
    clear hA
    go_wp2_with fail
    refine (P0.out _ HD0.out.row _).mono ?_
    rintro e w' ⟨rfl, rfl⟩
    have FS := Lib.hid (two_stores HD0.out.box (.string ⟨#[]⟩) (.slice none 0 0))
    have hr := fun (cs : Array Value) (j : Nat) => cell_setRow_same w2 (w.heap.size + 1) j _ cs _ _ HD0.out.box
    have r0 := hr #[.string ⟨#[]⟩, .slice none 0 0] 0
    have r1 := hr #[.string ⟨#[]⟩, .slice none 0 0] 1
    simp only [List.getElem?_toArray, List.getElem?_cons_zero, List.getElem?_cons_succ] at r0 r1
    have R0 := Lib.hid r0
    have R1 := Lib.hid r1
    clear r0 r1 hr
    have f0 := HFR.out _ _ HD0.out.box 0
    have f1 := HFR.out _ _ HD0.out.box 1
    have c0 : w2.cell? ⟨w.heap.size + 1, 0, none⟩ = some (.string .empty) := by rw [cell_of_row w2 (w.heap.size + 1) 0 _ _ _ HD0.out.box]; rfl
    have c1 : w2.cell? ⟨w.heap.size + 1, 1, none⟩ = some (.slice none 0 0) := by rw [cell_of_row w2 (w.heap.size + 1) 1 _ _ _ HD0.out.box]; rfl
    go_wp2_with fail
    rw [HE.out]
    rw [FS.out]
    refine bodyPost_ret (by simp [results, Tryz.results95, go_sem, R0.out, R1.out]; try rfl) rfl ?_
    exact NeedAns.no HD0.out _ rfl rfl
end Go.Proofs.YtnaejlfjlennhaaGreatDoor
/- Layer 8: what is needed of other objects, read one behind the other. -/
namespace Go.Proofs.YtnaejlfjlennhaaGreatDoor
open Go.RowKit Go.Maps
set_option linter.unusedVariables false
set_option linter.unusedSimpArgs false

theorem rowNeed : RowSlice Tryz.prog 35 210 (.agg #[.string .empty, .slice none 0 0]) 2 40 := ⟨Tryz.underlying35, by kernel_rfl, rfl, by decide⟩
def NeedRow (w : World) (B : Nat) (d : NeedD) (q : List Value) : Prop := ∃ ad c, q = [.string d.file, .slice ad d.aux.length c] ∧ OwnS w B 232 3 (.slice ad d.aux.length c) (auxRows d.aux)
def NeedRows (w : World) (B : Nat) : List NeedD → List (List Value) → Prop
  | [], [] => True
  | d :: ds, q :: qs => NeedRow w B d q ∧ NeedRows w B ds qs
  | _, _ => False
theorem NeedRows.len {w : World} {B : Nat} : ∀ {ds : List NeedD} {rows : List (List Value)}, NeedRows w B ds rows → rows.length = ds.length
  | [], [], _ => rfl
  | d :: ds, q :: qs, h => by simp [NeedRows.len h.2]
  | [], q :: qs, h => h.elim
  | d :: ds, [], h => h.elim
theorem NeedRows.snoc {w : World} {B : Nat} {d : NeedD} {q : List Value} : ∀ {ds : List NeedD} {rows : List (List Value)}, NeedRows w B ds rows → NeedRow w B d q → NeedRows w B (ds ++ [d]) (rows ++ [q])
  | [], [], _, h => ⟨h, trivial⟩
  | d :: ds, q :: qs, h, h2 => ⟨h.1, NeedRows.snoc h.2 h2⟩
  | [], q :: qs, h, _ => h.elim
  | d :: ds, [], h, _ => h.elim
theorem NeedRows.imp {w w' : World} {B B' : Nat} (H : ∀ v rows, OwnS w B 232 3 v rows → OwnS w' B' 232 3 v rows) : ∀ {ds : List NeedD} {rows : List (List Value)}, NeedRows w B ds rows → NeedRows w' B' ds rows
  | [], [], _ => trivial
  | d :: ds, q :: qs, h => by
    obtain ⟨⟨ad, c, e, ho⟩, h2⟩ := h
    exact ⟨⟨ad, c, e, H _ _ ho⟩, NeedRows.imp H h2⟩
  | [], q :: qs, h => h.elim
  | d :: ds, [], h => h.elim
theorem NeedRows.at {w : World} {B : Nat} : ∀ {ds : List NeedD} {rows : List (List Value)}, NeedRows w B ds rows → ∀ i (h1 : i < ds.length) (h2 : i < rows.length), NeedRow w B ds[i] rows[i]
  | d :: ds, q :: qs, h, 0, _, _ => h.1
  | d :: ds, q :: qs, h, i + 1, h1, h2 => NeedRows.at h.2 i (by simpa using h1) (by simpa using h2)
  | [], q :: qs, h, _, _, _ => h.elim
  | d :: ds, [], h, _, _, _ => h.elim
  | [], [], _, _, h1, _ => absurd h1 (by simp)

theorem LK.keepS {w w2 wc : World} {L sz sz2 : Nat} {pre : Array Value} {T e e2 : TypeId} {rows rows2 : List (List Value)} {ad : Option Addr} {c : Nat} {v : Value} {B0 : Nat} (h1 : InBx w L pre (.slice ad rows.length c) T) (h2 : OwnS w wc.heap.size e sz (.slice ad rows.length c) rows)
    (o : Obj) (hg : (w.alloc o).grownBy w2 (Value.slice ad rows.length c).ownBlock) (hv : OwnS w B0 e2 sz2 v rows2) (hu : e2 ≠ e) (hT : e ≠ T) (hT2 : e2 ≠ T) (u : Value) (j : Nat) :
    OwnS (w2.setCell ⟨L, j, none⟩ u) B0 e2 sz2 v rows2 := by
  have v2 : OwnS w2 B0 e2 sz2 v rows2 := ⟨World.ownsRow.kept (hv.allocO o).1 hg (own_apart (h2.allocO o).1 (hv.allocO o).1 hu), hv.2⟩
  have b2 : InBx w2 L pre (.slice ad rows.length c) T := (h1.alloc o).grown hg (h1.apart h2.1 hT)
  exact v2.setO (b2.apart v2.1 hT2) _

theorem errF_small {σ : Type} {f : σ → List Nat → Nat → σ × Nat} (hf : ∀ s b a, (f s b a).2 < 30) (bs : List Nat) (ps : List PT) (size : Nat) : ∀ (n fr step : Nat) (s : σ), (chainV f bs ps size n fr step s).2 < 30
  | 0, _, _, _ => by show 0 < 30; decide
  | n + 1, fr, step, s => by
    rw [chainV]
    split
    · show (itemF bs ps fr step size).2.2 < 30
      unfold itemF
      split
      · show 4 < 30; decide
      · show (sliceF bs ps (fr + step) size).2 < 30
        unfold sliceF
        split
        · show 0 < 30; decide
        · show 4 < 30; decide
    · split
      · exact hf _ _ _
      · split
        · show 3 < 30; decide
        · exact errF_small hf bs ps size n _ _ _
theorem needF_small (bs : List Nat) (ps : List PT) (ss told b : List Nat) (a : Nat) : (needF bs ps ss told b a).2.2 < 30 := by
  unfold needF
  split
  · show 3 < 30; decide
  · split
    · show 2 < 30; decide
    · split
      · exact textF_small _ _
      · exact errF_small (f := auxStep ss) (fun s b a => auxF_small _ _ _) _ _ _ _ _ _ _

def EQ (r : RD) (wc : World) (Rb L : Nat) (k : Nat) (s : List Nat × List NeedD) (w : World) : Prop :=
  (∃ rows, LK r s.1 wc Rb L #[] 35 210 2 rows w ∧ NeedRows w wc.heap.size s.2 rows) ∧ s.2.length + k ≤ 64

set_option maxRecDepth 100000 in
set_option maxHeartbeats 4000000 in
theorem need_step (r : RD) (wc : World) (Rb L : Nat) : Stepper r (needStep r.bs r.ps r.ss) 16 94 (.pointer (some ⟨Rb, 0, none⟩)) (.pointer (some ⟨L, 0, none⟩)) (EQ r wc Rb L) := by
  refine ⟨fun args w => rfl, fun h => by obtain ⟨⟨rows, h, -⟩, -⟩ := h; exact h.ok, fun h hb => ?_, fun s b a => needF_small _ _ _ _ _ _, ?_⟩
  · obtain ⟨⟨rows, h1, h2⟩, h3⟩ := h
    exact ⟨⟨rows, h1.below hb, h2.imp (fun v q ho => ho.below hb)⟩, h3⟩
  intro k s w1 w b at_ c ad hq hbel hown hb256 hlen hat
  obtain ⟨told, l⟩ := s
  obtain ⟨⟨rows, hq1, hq2⟩, hroom⟩ := hq
  have hw := hq1.below hbel
  have hnr := hq2.imp (w' := w) (fun v q ho => ho.below hbel)
  obtain ⟨g, rfl⟩ := hown.shape2v (by omega)
  have hcap := hown.cap2v
  have hrow : BRow w (some ⟨g, 0, none⟩) b := ⟨hown.row2v, hb256⟩
  have HA := Lib.hid (need_any r w told g c b at_ hw.ok hw.map hrow hlen (by omega) hat)
  unfold needStep
  simp only at HA hw ⊢
  generalize needF r.bs r.ps r.ss told b at_ = X at *
  obtain ⟨told2, ⟨file, aux⟩, cd⟩ := X
  simp only at HA ⊢
  have HLK := Lib.hid hw
  have HNR := Lib.hid hnr
  have HROOM : l.length + (k + 1) ≤ 64 := hroom
  have HO := Lib.hid hown
  have cR := hw.rbox.cell
  unfold rdV at cR HA
  have hcap8 : (16 : Int) ≤ (c : Int) := by omega
  have HLEN := Lib.hid hlen
  have HISM := Lib.hid hw.map.isMap
  have HSZ := Lib.hid hw.kp.size
  rw [hlen]
  clear hw hown hrow hq1 hq2 hnr hroom hbel hb256 hlen
  go_enter Tryz.func94, Tryz.ntmps94
  go_wp2_with fail
  refine HA.out.mono ?_
  rintro e w2 ⟨na, nc, he, ho2, hm2, hk2⟩
  replace he : e = .returned (.tuple #[.agg #[.string file, .slice na aux.length nc], errV (cd : Int)]) := he
  subst he
  have HK2 := Lib.hid (HLK.out.turned hk2 hm2)
  have HO2 : Hid (OwnI w2 w1.heap.size 5 .u8 (.slice (some ⟨g, 0, none⟩) b.length c) (toI b)) := Lib.hid (own_kp HO.out hk2 HISM.out)
  have HNR2 := Lib.hid (HNR.out.imp (w' := w2) (B' := wc.heap.size) (fun v q h => ⟨own_kp h.1 hk2 HISM.out, h.2⟩))
  have HAUX := Lib.hid (OwnS.mono ho2 HSZ.out)
  clear hk2 hm2 HA HLK HO cR HISM HNR ho2
  have BA : Hid (Below w2.heap.size w2 (w2.alloc (.cells #[.string file, .slice na aux.length nc] 210))) := Lib.hid ((Below.refl _ _).alloc (Nat.le_refl _) _)
  have HK3 := Lib.hid (HK2.out.below BA.out)
  have HO3 := Lib.hid (OwnI.below HO2.out BA.out)
  have HNR3 := Lib.hid (HNR2.out.imp (B' := wc.heap.size) (fun v q h => h.below BA.out))
  have HAUX3 := Lib.hid (OwnS.below HAUX.out BA.out)
  have HRL := Lib.hid HNR3.out.len
  have hrl := HRL.out
  obtain ⟨la, lc, hbox, hl⟩ := HK3.out.lbox
  rw [hrl] at hbox hl
  have cL := hbox.cell
  simp only [List.size_toArray, List.length_nil] at cL
  have HBX := Lib.hid hbox
  have HL := Lib.hid hl
  have HBS := Lib.hid HK3.out.kp.size
  clear hbox hl hrl
  go_wp2_with (at_builtin; (refine wpList_grow_row rfl (.tmp 16) (.tmp 18) rowNeed rfl wc.heap.size (.slice la l.length lc) rows l.length [.string file, .slice na aux.length nc] rfl (by change Value.slice (some ⟨w2.heap.size + 1, 0, none⟩) 1 1 = _; simp) HRL.out rfl (by intro u hu; simp only [List.mem_cons, List.not_mem_nil, or_false] at hu; rcases hu with rfl | rfl <;> rfl) HL.out (by unfold maxLen; omega) (by omega) HBS.out ?_); intro la2 lc2 w4 ho4 hg4; have O4 := Lib.hid ho4; have G4 := Lib.hid hg4; have cb4 := ((HBX.out.alloc _).grown hg4 (HBX.out.apart HL.out.1 (by decide))).cell; have cf4 := ((HBX.out.alloc _).grown hg4 (HBX.out.apart HL.out.1 (by decide))).free 0; simp only [List.size_toArray, List.length_nil] at cb4; clear ho4 hg4)
  go_ret
  have hpush := HK3.out.push (T := 35) (q := [Value.string file, .slice na aux.length nc]) (by rw [HRL.out]; exact HBX.out) (by rw [HRL.out]; exact HL.out) _ (by rw [HRL.out]; exact G4.out) (by rw [HRL.out]; exact O4.out) (by decide) (by decide)
  rw [HRL.out] at hpush
  refine ⟨rfl, ⟨⟨_, hpush, ?_⟩, by rw [List.length_append]; simp only [List.length_cons, List.length_nil]; omega⟩, ?_⟩
  · refine NeedRows.snoc (HNR3.out.imp (fun v q h => LK.keepS (T := 35) (rows := rows) (by rw [HRL.out]; exact HBX.out) (by rw [HRL.out]; exact HL.out) _ (by rw [HRL.out]; exact G4.out) h (by decide) (by decide) (by decide) _ _)) ⟨na, nc, rfl, ?_⟩
    exact LK.keepS (T := 35) (rows := rows) (by rw [HRL.out]; exact HBX.out) (by rw [HRL.out]; exact HL.out) _ (by rw [HRL.out]; exact G4.out) HAUX3.out (by decide) (by decide) (by decide) _ _
  · have ho2 := HO3.out
    rw [HLEN.out] at ho2
    exact LK.keep (T := 35) (rows := rows) (by rw [HRL.out]; exact HBX.out) (by rw [HRL.out]; exact HL.out) _ (by rw [HRL.out]; exact G4.out) ho2 (by decide) (by decide) (by decide) _ _
end Go.Proofs.YtnaejlfjlennhaaGreatDoor
/- Layer 8: all that is needed of other objects: the program's answer. -/
namespace Go.Proofs.YtnaejlfjlennhaaGreatDoor
open Go.RowKit Go.Maps
set_option linter.unusedVariables false
set_option linter.unusedSimpArgs false

def NeedsAns (r : RD) (X : (List Nat × List NeedD) × Nat) (w : World) (e : Ending) (w' : World) : Prop :=
  ∃ ad c rows, e = .returned (.tuple #[.slice ad X.1.2.length c, errV (X.2 : Int)]) ∧ OwnS w' w.heap.size 210 2 (.slice ad X.1.2.length c) rows ∧ NeedRows w' w.heap.size X.1.2 rows ∧ MapN w' r.B X.1.1 ∧ Kp r.B w w'
theorem NeedsAns.no {r : RD} {w w' : World} {told : List Nat} {c : Nat} {e1 : Value} (hm : MapN w' r.B told) (hk : Kp r.B w w') (he : e1 = errV (c : Int)) : NeedsAns r ((told, []), c) w (.returned (.tuple #[.slice none 0 0, e1])) w' := by
  subst he
  exact ⟨none, 0, [], rfl, OwnS.nil _ _ _ _, trivial, hm, hk⟩

set_option maxRecDepth 100000 in
set_option maxHeartbeats 8000000 in
theorem needs_any (r : RD) (w : World) (told : List Nat) (D : Array Value) (vn vnn : Nat) (h : r.ok w) (hm : MapN w r.B told) (hD : D.size = 37) (hD30 : D[30]? = some (.int .u64 (vn : Int))) (hD31 : D[31]? = some (.int .u64 (vnn : Int))) (h1 : vn < 18446744073709551616) (h2 : vnn < 18446744073709551616) :
    Calls Tryz.prog 60 #[rdV r, .agg D] w (NeedsAns r (needsF r.bs r.ps r.ss told vn vnn) w) := by
  have BZ : Hid (Below w.heap.size w ((w.alloc (.cells #[rdV r] 201)).alloc (.cells D 30))) := Lib.hid (((Below.refl _ _).alloc (Nat.le_refl _) _).alloc (by simp) _)
  have HD : Hid (((w.alloc (.cells #[rdV r] 201)).alloc (.cells D 30)).heap[w.heap.size + 1]? = some (.cells D 30)) := Lib.hid (by
    have := heap_alloc_new (w.alloc (.cells #[rdV r] 201)) (.cells D 30)
    simpa using this)
  have HR0 : Hid (InBox ((w.alloc (.cells #[rdV r] 201)).alloc (.cells D 30)) w.heap.size (rdV r) 201) := Lib.hid ((InBox.new w _ _).alloc _)
  have c30 : ((w.alloc (.cells #[rdV r] 201)).alloc (.cells D 30)).cell? ⟨w.heap.size + 1, 30, none⟩ = some (.int .u64 (vn : Int)) := by rw [cell_of_row _ _ 30 _ _ _ HD.out]; exact hD30
  have c31 : ((w.alloc (.cells #[rdV r] 201)).alloc (.cells D 30)).cell? ⟨w.heap.size + 1, 31, none⟩ = some (.int .u64 (vnn : Int)) := by rw [cell_of_row _ _ 31 _ _ _ HD.out]; exact hD31
  have C30 := Lib.hid c30
  have C31 := Lib.hid c31
  have cR := HR0.out.cell
  have HOK := Lib.hid h
  have HM := Lib.hid hm
  have HI : Hid ((Tryz.prog.info? 30).map (·.size) = some D.size) := Lib.hid (show _ by rw [hD]; kernel_rfl)
  clear hD hD30 hD31 h hm
  unfold rdV at *
  unfold needsF
  by_cases hz : vn = 0
  · subst hz
    rw [if_pos rfl]
    go_enter Tryz.func60, Tryz.ntmps60
    go_wp2_with fail
    go_ret2
    exact NeedsAns.no (HM.out.below BZ.out) (Kp.below BZ.out) rfl
  · rw [if_neg hz]
    have hz1 : ((vn : Int) == 0) = false := beq_eq_false_iff_ne.2 (by omega)
    by_cases h64 : 64 < vnn
    · rw [if_pos h64]
      have h64i : (64 : Int) < (vnn : Int) := by omega
      clear hz h64
      go_enter Tryz.func60, Tryz.ntmps60
      go_wp2_with fail
      go_ret2
      exact NeedsAns.no (HM.out.below BZ.out) (Kp.below BZ.out) rfl
    · rw [if_neg h64]
      have h64i : ¬ (64 : Int) < (vnn : Int) := by omega
      obtain ⟨X, hX⟩ : ∃ X, chainV (needStep r.bs r.ps r.ss) r.bs r.ps 16 vnn vn 0 (told, []) = X := ⟨_, rfl⟩
      have HCH := Lib.hid (fun (wc w1 : World) (Rb L : Nat) (hq : EQ r wc Rb L vnn (told, []) w1) => chain_any r (need_step r wc Rb L) (.inr (.inl rfl)) vn 0 vnn (told, []) w1 h1 (by decide) (by omega) hq)
      rw [hX] at HCH ⊢
      have HN64 : Hid (vnn ≤ 64) := Lib.hid (by omega)
      clear hz h64 hX
      obtain ⟨w2, hw2⟩ : ∃ w2, ((w.alloc (.cells #[.pointer (some ⟨r.R, 0, none⟩)] 201)).alloc (.cells D 30)) = w2 := ⟨_, rfl⟩
      have W4 : Hid (Below w2.heap.size w2 (w2.alloc (.cells #[.slice none 0 0] 35))) := Lib.hid ((Below.refl _ _).alloc (Nat.le_refl _) _)
      have HSZ2 : Hid (w2.heap.size = w.heap.size + 2) := Lib.hid (by rw [← hw2]; simp)
      have HQ : Hid (EQ r w2 w.heap.size w2.heap.size vnn (told, []) (w2.alloc (.cells #[.slice none 0 0] 35))) := Lib.hid (by
        rw [hw2] at BZ HR0
        refine ⟨⟨[], ⟨HOK.out.below BZ.out, (HM.out.below BZ.out).below W4.out, Kp.below W4.out, HR0.out.below W4.out, ⟨none, 0, ?_, OwnS.nil _ _ _ _⟩, Nat.le_refl _, by have := HSZ2.out; omega⟩, trivial⟩, by simpa using HN64.out⟩
        exact heap_alloc_new w2 (.cells #[.slice none 0 0] 35))
      have HCALL := Lib.hid (HCH.out _ _ _ _ HQ.out)
      clear HQ HCH
      rw [HSZ2.out] at HCALL
      subst hw2
      have k30 : (((w.alloc (.cells #[.pointer (some ⟨r.R, 0, none⟩)] 201)).alloc (.cells D 30)).alloc (.cells #[.slice none 0 0] 35)).cell? ⟨w.heap.size + 1, 30, none⟩ = some (.int .u64 (vn : Int)) := by rw [W4.out.cell (p := ⟨w.heap.size + 1, 30, none⟩) (by simp)]; exact C30.out
      have k31 : (((w.alloc (.cells #[.pointer (some ⟨r.R, 0, none⟩)] 201)).alloc (.cells D 30)).alloc (.cells #[.slice none 0 0] 35)).cell? ⟨w.heap.size + 1, 31, none⟩ = some (.int .u64 (vnn : Int)) := by rw [W4.out.cell (p := ⟨w.heap.size + 1, 31, none⟩) (by simp)]; exact C31.out
      have kR : (((w.alloc (.cells #[.pointer (some ⟨r.R, 0, none⟩)] 201)).alloc (.cells D 30)).alloc (.cells #[.slice none 0 0] 35)).cell? ⟨w.heap.size, 0, none⟩ = some (.pointer (some ⟨r.R, 0, none⟩)) := (HR0.out.below W4.out).cell
      go_enter Tryz.func60, Tryz.ntmps60
      go_wp2_with fail
      refine HCALL.out.mono ?_
      rintro e w5 ⟨rfl, k5, ⟨rows, hlk, hnr⟩, hroom⟩
      have HM5 := Lib.hid hlk.map
      have HK5 := Lib.hid ((Kp.below BZ.out).trans hlk.kp)
      obtain ⟨la, lc, hbox, hl5⟩ := hlk.lbox
      rw [hnr.len] at hbox hl5
      have cb : w5.cell? ⟨w.heap.size + 1 + 1, 0, none⟩ = some (.slice la X.1.2.length lc) := hbox.cell
      have HO5 := Lib.hid (OwnS.mono hl5 (show w.heap.size ≤ _ by rw [HSZ2.out]; omega))
      have HN5 := Lib.hid (hnr.imp (B' := w.heap.size) (fun v q ho => OwnS.mono ho (by rw [HSZ2.out]; omega)))
      clear hlk hnr hroom hbox hl5 HCALL kR k30 k31
      go_wp2_with fail
      go_ret2
      exact ⟨la, lc, rows, rfl, HO5.out, HN5.out, HM5.out, HK5.out⟩
end Go.Proofs.YtnaejlfjlennhaaGreatDoor
/- Layer 8: for the answer of a definition: the names of it, the place of the answer. -/
namespace Go.Proofs.YtnaejlfjlennhaaGreatDoor
open Go.RowKit Go.Maps
set_option linter.unusedVariables false
set_option linter.unusedSimpArgs false

theorem nameStep_len {ss : List Nat} {bs : List Nat} {ps : List PT} {size : Nat} : ∀ (n fr step : Nat) (l : List ByteArray), (chainV (nameStep ss) bs ps size n fr step l).2 = 0 → (chainV (nameStep ss) bs ps size n fr step l).1.length = l.length + n
  | 0, _, _, l, _ => rfl
  | n + 1, fr, step, l, h => by
    rw [chainV] at h ⊢
    by_cases h1 : (itemF bs ps fr step size).2.2 = 0
    · rw [if_neg (by simpa using h1)] at h ⊢
      by_cases h2 : (nameStep ss l (itemF bs ps fr step size).1 (itemF bs ps fr step size).2.1).2 = 0
      · rw [if_neg (by simpa using h2)] at h ⊢
        by_cases h3 : numOf ((itemF bs ps fr step size).1.drop (size - 4)) = 0 ∧ 0 < n
        · rw [if_pos h3] at h
          exact absurd (show (3 : Nat) = 0 from h) (by decide)
        · rw [if_neg h3] at h ⊢
          rw [nameStep_len n _ _ _ h]
          simp [nameStep]
          omega
      · rw [if_pos (by simpa using h2)] at h
        exact absurd h h2
    · rw [if_pos (by simpa using h1)] at h
      exact absurd h h1
theorem nameStep_size {ss : List Nat} {bs : List Nat} {ps : List PT} {size : Nat} : ∀ (n fr step : Nat) (l : List ByteArray), (∀ t ∈ l, t.size ≤ 255) → ∀ t ∈ (chainV (nameStep ss) bs ps size n fr step l).1, t.size ≤ 255
  | 0, _, _, l, h => h
  | n + 1, fr, step, l, h => by
    have hs : ∀ b, ∀ t ∈ l ++ [(textF ss (numOf (b : List Nat))).1], t.size ≤ 255 := by
      intro b t ht
      rcases List.mem_append.1 ht with h1 | h1
      · exact h t h1
      · simp only [List.mem_singleton] at h1
        subst h1
        exact textF_size _ _
    rw [chainV]
    split
    · exact h
    · split
      · exact hs _
      · split
        · exact hs _
        · exact nameStep_size n _ _ _ (hs _)

/-- the block of the answer, whatever stands there -/
def Box4 (w : World) (V : Nat) (T : TypeId) : Prop := ∃ u0 u1 u2 u3, w.heap[V]? = some (.cells #[u0, u1, u2, u3] T)
/-- from a world on nothing is changed but the place of the answer -/
def SS (V : Nat) (T : TypeId) (w5 w' : World) : Prop := w5.grownBy w' (some V) ∧ Box4 w' V T
theorem SS.below {V : Nat} {T : TypeId} {w5 w' w6 : World} (h : SS V T w5 w') (hb : Below w'.heap.size w' w6) : SS V T w5 w6 := by
  obtain ⟨h1, u0, u1, u2, u3, h2⟩ := h
  exact ⟨World.grownBy.trans h1 ⟨hb.os, hb.tape, hb.output, hb.size, fun i hi _ => hb.block i hi⟩, u0, u1, u2, u3, (hb.block V (lt_of_block h2)).trans h2⟩
theorem SS.set {V : Nat} {T : TypeId} {w5 w' : World} (h : SS V T w5 w') (v0 v1 v2 v3 : Value) : SS V T w5 (w'.setRow V #[v0, v1, v2, v3]) := by
  obtain ⟨h1, u0, u1, u2, u3, h2⟩ := h
  exact ⟨World.grownBy.trans h1 (setRow_grown _ _ _), v0, v1, v2, v3, setRow_heap _ _ _ _ _ _ h2⟩
theorem SS.cell {V : Nat} {T : TypeId} {w5 w' : World} (h : SS V T w5 w') {b o : Nat} {v : Value} (hc : w5.cell? ⟨b, o, none⟩ = some v) (hb : b ≠ V) : w'.cell? ⟨b, o, none⟩ = some v := h.1.cell hc (by simpa using hb)

theorem step_store4 {w : World} {ops : Array Oper} {o : Oper} {a : Act} {K : Act → World → Prop} {Q : Exit → Act → World → Prop} {E : Prop} (hgd : o.guard = none) (p x : Operand) (ho : o.op = .store 204 p x) (hdst : o.dst = none)
    (V : Nat) {T : TypeId} (y0 : Int) (y1 : Bool) (y2 : ByteArray) (y3 : Option Addr) (y4 y5 : Nat) (hp : a.eval p = .pointer (some ⟨V, 0, none⟩)) (hx : a.eval x = .agg #[.int .i64 y0, .bool y1, .string y2, .slice y3 y4 y5]) (hbox : Hid (Box4 w V T))
    (h : K a (w.setRow V #[.int .i64 y0, .bool y1, .string y2, .slice y3 y4 y5])) :
    if Region.wanted o (yielded ops a.tmps) = true then Oper.wp Tryz.prog o a w K Q else E := by
  have hw : Region.wanted o (yielded ops a.tmps) = true := by simp [Region.wanted, hgd]
  rw [if_pos hw]
  obtain ⟨u0, u1, u2, u3, hb⟩ := hbox.out
  have f := fun j => frozen_of_row w V j _ _ hb
  have c0 : w.cell? ⟨V, 0, none⟩ = some u0 := by rw [cell_of_row w V 0 _ _ _ hb]; rfl
  have c1 : w.cell? ⟨V, 1, none⟩ = some u1 := by rw [cell_of_row w V 1 _ _ _ hb]; rfl
  have c2 : w.cell? ⟨V, 2, none⟩ = some u2 := by rw [cell_of_row w V 2 _ _ _ hb]; rfl
  have c3 : w.cell? ⟨V, 3, none⟩ = some u3 := by rw [cell_of_row w V 3 _ _ _ hb]; rfl
  have f0 := f 0
  have f1 := f 1
  have f2 := f 2
  have f3 := f 3
  have FS := four_stores hb (.int .i64 y0) (.bool y1) (.string y2) (.slice y3 y4 y5)
  rw [← FS] at h
  have HH := Lib.hid h
  clear hb hbox f FS hw h
  unfold Oper.wp execOp
  simp only [ho, hp, hx, hdst]
  go_simp
  exact HH.out
/-- what stands in the place of the answer -/
def oldCell (w : World) (V j : Nat) : Value := (w.cell? ⟨V, j, none⟩).getD (.int .i64 0)
def Old4 (w : World) (V : Nat) : Prop := (w.cell? ⟨V, 0, none⟩ = some (oldCell w V 0) ∧ w.cell? ⟨V, 1, none⟩ = some (oldCell w V 1) ∧ w.cell? ⟨V, 2, none⟩ = some (oldCell w V 2) ∧ w.cell? ⟨V, 3, none⟩ = some (oldCell w V 3)) ∧
  w.frozen? ⟨V, 0, none⟩ = false ∧ w.frozen? ⟨V, 1, none⟩ = false ∧ w.frozen? ⟨V, 2, none⟩ = false ∧ w.frozen? ⟨V, 3, none⟩ = false
theorem Box4.old {w : World} {V : Nat} {T : TypeId} (h : Box4 w V T) : Old4 w V := by
  obtain ⟨u0, u1, u2, u3, hb⟩ := h
  have c := fun j => cell_of_row w V j _ _ _ hb
  have f := fun j => frozen_of_row w V j _ _ hb
  refine ⟨⟨?_, ?_, ?_, ?_⟩, f 0, f 1, f 2, f 3⟩
  all_goals
    unfold oldCell
    rw [c]
    rfl
theorem SS.stores {V : Nat} {T : TypeId} {w5 w' : World} (h : SS V T w5 w') (v0 v1 v2 v3 : Value) : SS V T w5 ((((w'.setCell ⟨V, 0, none⟩ v0).setCell ⟨V, 1, none⟩ v1).setCell ⟨V, 2, none⟩ v2).setCell ⟨V, 3, none⟩ v3) := by
  have h2 := h.set v0 v1 v2 v3
  obtain ⟨u0, u1, u2, u3, hb⟩ := h.2
  rw [four_stores hb]
  exact h2
theorem flat_names (l : List ByteArray) : (nameRows l).flatten = l.map Value.string := by
  induction l with
  | nil => rfl
  | cons a l ih => simp [nameRows] at ih ⊢; exact ih
theorem OwnT.asS {w : World} {B : Nat} {e : TypeId} {v : Value} {T : List ByteArray} (h : OwnT w B e v T) : OwnS w B e 1 v (nameRows T) := by
  refine ⟨?_, fun r hr => by obtain ⟨t, -, rfl⟩ := List.mem_map.1 hr; rfl⟩
  rw [nameRows_length, flat_names]
  exact h
end Go.Proofs.YtnaejlfjlennhaaGreatDoor
