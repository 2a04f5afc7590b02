/- Layer 8: a definition: the program's answer. -/
import Derived.Test.YtnaejlfjlennhaaGreatDoorVersDefA
import Derived.StillTailTactics
import Derived.Deep.RegionHeld3
namespace Go.Proofs.YtnaejlfjlennhaaGreatDoor
open Go.RowKit Go.Maps
set_option linter.unusedVariables false
set_option linter.unusedSimpArgs false

def DefRow (w : World) (B : Nat) (d : DefD) (q : List Value) : Prop := ∃ pa pc, q = [.int .i64 (d.idx : Int), .bool d.base, .string d.name, .slice pa d.parents.length pc] ∧ OwnS w B 9 1 (.slice pa d.parents.length pc) (nameRows d.parents)
def DefAns (r : RD) (X : List Nat × DefD × Nat) (w : World) (e : Ending) (w' : World) : Prop :=
  ∃ pa pc, e = .returned (.tuple #[.agg #[.int .i64 (X.2.1.idx : Int), .bool X.2.1.base, .string X.2.1.name, .slice pa X.2.1.parents.length pc], errV (X.2.2 : Int)]) ∧ OwnS w' w.heap.size 9 1 (.slice pa X.2.1.parents.length pc) (nameRows X.2.1.parents) ∧ MapN w' r.B X.1 ∧ Kp r.B w w'
theorem DefAns.no {r : RD} {w wx : World} {V g : Nat} {b told : List Nat} {T : TypeId} {cs0 : Array Value} {c : Nat} {v : Value} {e1 : Value} (h : DW r w V g cs0 T b told wx) (cs : Array Value) (hv : v = .agg #[.int .i64 0, .bool false, .string .empty, .slice none 0 0]) (he : e1 = errV (c : Int)) :
    DefAns r (told, .zero, c) w (.returned (.tuple #[v, e1])) (wx.setRow V cs) := by
  subst hv he
  exact ⟨none, 0, rfl, OwnS.nil _ _ _ _, (h.done cs).1, (h.done cs).2⟩
def valOf (b : List Nat) (o n : Nat) : Nat := numOf ((b.drop o).take n)

set_option maxRecDepth 100000 in
set_option maxHeartbeats 16000000 in
theorem def_any (r : RD) (w : World) (told : List Nat) (g c : Nat) (b : List Nat) (at_ : Nat) (h : r.ok w) (hm : MapN w r.B told) (hb : BRow w (some ⟨g, 0, none⟩) b) (hl : b.length = 20) (hc : 20 ≤ c) (hat : at_ < 18446744073709551616) :
    Calls Tryz.prog 93 #[rdV r, .slice (some ⟨g, 0, none⟩) 20 c, .int .u64 (at_ : Int)] w (DefAns r (defF r.bs r.ps r.ss told b at_) w) := by
  have HP : Hid (∀ (wx : World) (hw : BRow wx (some ⟨g, 0, none⟩) b) (o n q : Nat) (hn : n ≤ 8) (ho : o + n ≤ 20), Calls Tryz.prog 48 #[.slice (some ⟨g, o, none⟩) n q] wx fun e w' => e = .returned (.int .u64 ((valOf b o n : Nat) : Int)) ∧ wx = w') := Lib.hid (fun wx hw o n q hn ho => part_any g b wx hw o n q hn (by omega))
  have BZ : Hid (Below w.heap.size w ((w.alloc (.cells #[rdV r] 201)).alloc (.cells #[.int .i64 0, .bool false, .string .empty, .slice none 0 0] 204))) := Lib.hid (((Below.refl _ _).alloc (Nat.le_refl _) _).alloc (by simp) _)
  have HD0 : Hid (DW r w (w.heap.size + 1) g #[.int .i64 0, .bool false, .string .empty, .slice none 0 0] 204 b told ((w.alloc (.cells #[rdV r] 201)).alloc (.cells #[.int .i64 0, .bool false, .string .empty, .slice none 0 0] 204))) := Lib.hid (by
    refine ⟨h, Kp.below BZ.out, hm.below BZ.out, ?_, hb.below BZ.out, by omega⟩
    have := heap_alloc_new (w.alloc (.cells #[rdV r] 201)) (.cells #[.int .i64 0, .bool false, .string .empty, .slice none 0 0] 204)
    simpa using this)
  have HR0 : Hid (InBox ((w.alloc (.cells #[rdV r] 201)).alloc (.cells #[.int .i64 0, .bool false, .string .empty, .slice none 0 0] 204)) w.heap.size (rdV r) 201) := Lib.hid ((InBox.new w _ _).alloc _)
  have HG : Hid (g < w.heap.size) := Lib.hid (by
    obtain ⟨b', o', e', hlt, -⟩ := hb.at (i := 0) (by omega)
    simp only [Option.some.injEq, Addr.mk.injEq] at e'
    obtain ⟨rfl, -, -⟩ := e'
    exact hlt)
  have n0 : valOf b 0 2 < 65536 := numOf_two b hb.2 0
  have n2 : valOf b 2 2 < 65536 := numOf_two b hb.2 2
  have n4 : valOf b 4 2 < 65536 := numOf_two b hb.2 4
  have n6 : valOf b 6 2 < 65536 := numOf_two b hb.2 6
  have n8 : valOf b 8 4 < 4294967296 := numOf_four b hb.2 8
  have n12 : valOf b 12 4 < 4294967296 := numOf_four b hb.2 12
  have hand := and_index _ n4
  have HTELL := Lib.hid (fun (wx : World) (hw : r.ok wx) (hmx : MapN wx r.B told) (x : Nat) (h1 : 1 ≤ x) (h2 : x < 32768) => tell_any r wx told x hw hmx h1 h2)
  have hFe : defF r.bs r.ps r.ss told b at_ = (if valOf b 0 2 ≠ 1 ∨ valOf b 4 2 % 32768 = 0 ∨ valOf b 6 2 = 0 then (told, DefD.zero, 3)
    else if valOf b 4 2 % 32768 ∈ told then (told, DefD.zero, 5)
    else if 64 < valOf b 6 2 then (told ++ [valOf b 4 2 % 32768], DefD.zero, 2)
    else if (chainV (nameStep r.ss) r.bs r.ps 8 (valOf b 6 2) at_ (valOf b 12 4) []).2 ≠ 0 then (told ++ [valOf b 4 2 % 32768], DefD.zero, (chainV (nameStep r.ss) r.bs r.ps 8 (valOf b 6 2) at_ (valOf b 12 4) []).2)
    else if sysOfV ((chainV (nameStep r.ss) r.bs r.ps 8 (valOf b 6 2) at_ (valOf b 12 4) []).1.getD 0 .empty).data.toList ≠ valOf b 8 4 then (told ++ [valOf b 4 2 % 32768], DefD.zero, 3)
    else (told ++ [valOf b 4 2 % 32768], (⟨valOf b 4 2 % 32768, decide (valOf b 2 2 % 2 = 1), (chainV (nameStep r.ss) r.bs r.ps 8 (valOf b 6 2) at_ (valOf b 12 4) []).1.getD 0 .empty, (chainV (nameStep r.ss) r.bs r.ps 8 (valOf b 6 2) at_ (valOf b 12 4) []).1.drop 1⟩ : DefD), 0)) := rfl
  have HCH := Lib.hid (fun (told2 : List Nat) (wc w1 : World) (Rb L : Nat) (hn : valOf b 6 2 ≤ 65536) (hq : NQ r told2 wc Rb L (valOf b 6 2) [] w1) => chain_any r (name_step r told2 wc Rb L) (.inl rfl) at_ (valOf b 12 4) (valOf b 6 2) [] w1 hat (by omega) hn hq)
  have HLEN := Lib.hid (nameStep_len (ss := r.ss) (bs := r.bs) (ps := r.ps) (size := 8) (valOf b 6 2) at_ (valOf b 12 4) [])
  have HSIZE := Lib.hid (nameStep_size (ss := r.ss) (bs := r.bs) (ps := r.ps) (size := 8) (valOf b 6 2) at_ (valOf b 12 4) [] (fun t ht => by cases ht))
  have HSMALL := Lib.hid (errF_small (f := nameStep r.ss) (fun s b a => textF_small _ _) r.bs r.ps 8 (valOf b 6 2) at_ (valOf b 12 4) [])
  generalize chainV (nameStep r.ss) r.bs r.ps 8 (valOf b 6 2) at_ (valOf b 12 4) [] = CX at *
  rw [hFe]
  clear hFe hm hb h
  obtain ⟨X, hX⟩ : ∃ X, (if valOf b 0 2 ≠ 1 ∨ valOf b 4 2 % 32768 = 0 ∨ valOf b 6 2 = 0 then (told, DefD.zero, 3)
    else if valOf b 4 2 % 32768 ∈ told then (told, DefD.zero, 5)
    else if 64 < valOf b 6 2 then (told ++ [valOf b 4 2 % 32768], DefD.zero, 2)
    else if CX.2 ≠ 0 then (told ++ [valOf b 4 2 % 32768], DefD.zero, CX.2)
    else if sysOfV (CX.1.getD 0 .empty).data.toList ≠ valOf b 8 4 then (told ++ [valOf b 4 2 % 32768], DefD.zero, 3)
    else (told ++ [valOf b 4 2 % 32768], (⟨valOf b 4 2 % 32768, decide (valOf b 2 2 % 2 = 1), CX.1.getD 0 .empty, CX.1.drop 1⟩ : DefD), 0)) = X := ⟨_, rfl⟩
  rw [hX]
  have HX := Lib.hid hX
  clear hX
  have hx : valOf b 4 2 % 32768 < 32768 := by omega
  generalize valOf b 4 2 % 32768 = x at *
  generalize hval : valOf b = val at *
  clear hval
  have hxw : IntKind.i64.wrap (x : Int) = (x : Int) := by rw [IntKind.wrap_i64]; omega
  have ic : (20 : Int) ≤ (c : Int) := by omega
  have HFR := Lib.hid (fun (wx : World) (cs : Array Value) (h : wx.heap[w.heap.size + 1]? = some (.cells cs 204)) (j : Nat) => frozen_of_row wx (w.heap.size + 1) j _ _ h)
  unfold rdV at *
  obtain ⟨w2, hw2⟩ : ∃ w2, ((w.alloc (.cells #[.pointer (some ⟨r.R, 0, none⟩)] 201)).alloc (.cells #[.int .i64 0, .bool false, .string .empty, .slice none 0 0] 204)) = w2 := ⟨_, rfl⟩
  go_enter Tryz.func93, Tryz.ntmps93
  go_wp2_with fail
  rw [hw2] at HD0 HR0 BZ
  change Code.wp _ _ _ _ ((w.alloc (.cells #[.pointer (some ⟨r.R, 0, none⟩)] 201)).alloc (.cells #[.int .i64 0, .bool false, .string .empty, .slice none 0 0] 204))
  rw [hw2]
  clear hw2
  go_quiet ((go_at_call 48; exact Calls.quiet_of_same ((HP.out _ (HD0.out.below (below_drewN (Below.refl _ _) _)).row _ _ _ (by decide) (by decide)).mono (by rintro e w' ⟨rfl, rfl⟩; exact ⟨rfl, rfl⟩))))
  have HD1 := Lib.hid (HD0.out.below (below_drewN (Below.refl _ _) nq))
  have HR1 := Lib.hid (HR0.out.below (below_drewN (Below.refl _ _) nq))
  clear HD0 HR0
  generalize w2.drewN nq = w3 at *
  by_cases hA : val 0 2 = 1
  · have hA1 : ((val 0 2 : Int) != 1) = false := by rw [hA]; rfl
    by_cases hx0 : x = 0
    · have hx1 : ((x : Int) == 0) = true := by rw [hx0]; rfl
      have HE : Hid (X = (told, .zero, 3)) := Lib.hid (by rw [← HX.out, if_pos (.inr (.inl hx0))])
      clear hx0 hA
      go_wp2_with fail
      refine (HP.out _ HD1.out.row _ _ _ (by decide) (by decide)).mono ?_
      rintro e w' ⟨rfl, rfl⟩
      have FS := Lib.hid (four_stores HD1.out.box (.int .i64 0) (.bool false) (.string ⟨#[]⟩) (.slice none 0 0))
      have hr := fun (cs : Array Value) (j : Nat) => cell_setRow_same w3 (w.heap.size + 1) j _ cs _ _ HD1.out.box
      have r0 := hr #[.int .i64 0, .bool false, .string ⟨#[]⟩, .slice none 0 0] 0
      have r1 := hr #[.int .i64 0, .bool false, .string ⟨#[]⟩, .slice none 0 0] 1
      have r2 := hr #[.int .i64 0, .bool false, .string ⟨#[]⟩, .slice none 0 0] 2
      have r3 := hr #[.int .i64 0, .bool false, .string ⟨#[]⟩, .slice none 0 0] 3
      simp only [List.getElem?_toArray, List.getElem?_cons_zero, List.getElem?_cons_succ] at r0 r1 r2 r3
      have R0 := Lib.hid r0
      have R1 := Lib.hid r1
      have R2 := Lib.hid r2
      have R3 := Lib.hid r3
      clear r0 r1 r2 r3 hr
      have f0 := HFR.out _ _ HD1.out.box 0
      have f1 := HFR.out _ _ HD1.out.box 1
      have f2 := HFR.out _ _ HD1.out.box 2
      have f3 := HFR.out _ _ HD1.out.box 3
      have c0 : w3.cell? ⟨w.heap.size + 1, 0, none⟩ = some (.int .i64 0) := by rw [cell_of_row w3 (w.heap.size + 1) 0 _ _ _ HD1.out.box]; rfl
      have c1 : w3.cell? ⟨w.heap.size + 1, 1, none⟩ = some (.bool false) := by rw [cell_of_row w3 (w.heap.size + 1) 1 _ _ _ HD1.out.box]; rfl
      have c2 : w3.cell? ⟨w.heap.size + 1, 2, none⟩ = some (.string .empty) := by rw [cell_of_row w3 (w.heap.size + 1) 2 _ _ _ HD1.out.box]; rfl
      have c3 : w3.cell? ⟨w.heap.size + 1, 3, none⟩ = some (.slice none 0 0) := by rw [cell_of_row w3 (w.heap.size + 1) 3 _ _ _ HD1.out.box]; rfl
      go_wp2_with fail
      rw [HE.out]
      rw [FS.out]
      refine bodyPost_ret (by simp [results, Tryz.results93, go_sem, R0.out, R1.out, R2.out, R3.out]; try rfl) rfl ?_
      exact DefAns.no HD1.out _ rfl rfl
    · have hx1 : ((x : Int) == 0) = false := beq_eq_false_iff_ne.2 (by omega)
      by_cases hN : val 6 2 = 0
      · have hN1 : ((val 6 2 : Int) == 0) = true := by rw [hN]; rfl
        have HE : Hid (X = (told, .zero, 3)) := Lib.hid (by rw [← HX.out, if_pos (.inr (.inr hN))])
        clear hx0 hA hN
        go_wp2_with fail
        refine (HP.out _ HD1.out.row _ _ _ (by decide) (by decide)).mono ?_
        rintro e w' ⟨rfl, rfl⟩
        have FS := Lib.hid (four_stores HD1.out.box (.int .i64 0) (.bool false) (.string ⟨#[]⟩) (.slice none 0 0))
        have hr := fun (cs : Array Value) (j : Nat) => cell_setRow_same w3 (w.heap.size + 1) j _ cs _ _ HD1.out.box
        have r0 := hr #[.int .i64 0, .bool false, .string ⟨#[]⟩, .slice none 0 0] 0
        have r1 := hr #[.int .i64 0, .bool false, .string ⟨#[]⟩, .slice none 0 0] 1
        have r2 := hr #[.int .i64 0, .bool false, .string ⟨#[]⟩, .slice none 0 0] 2
        have r3 := hr #[.int .i64 0, .bool false, .string ⟨#[]⟩, .slice none 0 0] 3
        simp only [List.getElem?_toArray, List.getElem?_cons_zero, List.getElem?_cons_succ] at r0 r1 r2 r3
        have R0 := Lib.hid r0
        have R1 := Lib.hid r1
        have R2 := Lib.hid r2
        have R3 := Lib.hid r3
        clear r0 r1 r2 r3 hr
        have f0 := HFR.out _ _ HD1.out.box 0
        have f1 := HFR.out _ _ HD1.out.box 1
        have f2 := HFR.out _ _ HD1.out.box 2
        have f3 := HFR.out _ _ HD1.out.box 3
        have c0 : w3.cell? ⟨w.heap.size + 1, 0, none⟩ = some (.int .i64 0) := by rw [cell_of_row w3 (w.heap.size + 1) 0 _ _ _ HD1.out.box]; rfl
        have c1 : w3.cell? ⟨w.heap.size + 1, 1, none⟩ = some (.bool false) := by rw [cell_of_row w3 (w.heap.size + 1) 1 _ _ _ HD1.out.box]; rfl
        have c2 : w3.cell? ⟨w.heap.size + 1, 2, none⟩ = some (.string .empty) := by rw [cell_of_row w3 (w.heap.size + 1) 2 _ _ _ HD1.out.box]; rfl
        have c3 : w3.cell? ⟨w.heap.size + 1, 3, none⟩ = some (.slice none 0 0) := by rw [cell_of_row w3 (w.heap.size + 1) 3 _ _ _ HD1.out.box]; rfl
        go_wp2_with fail
        rw [HE.out]
        rw [FS.out]
        refine bodyPost_ret (by simp [results, Tryz.results93, go_sem, R0.out, R1.out, R2.out, R3.out]; try rfl) rfl ?_
        exact DefAns.no HD1.out _ rfl rfl
      · have hN1 : ((val 6 2 : Int) == 0) = false := beq_eq_false_iff_ne.2 (by omega)
        have HE1 : Hid (X = if x ∈ told then (told, DefD.zero, 5)
          else if 64 < val 6 2 then (told ++ [x], DefD.zero, 2)
          else if CX.2 ≠ 0 then (told ++ [x], DefD.zero, CX.2)
          else if sysOfV (CX.1.getD 0 .empty).data.toList ≠ val 8 4 then (told ++ [x], DefD.zero, 3)
          else (told ++ [x], (⟨x, decide (val 2 2 % 2 = 1), CX.1.getD 0 .empty, CX.1.drop 1⟩ : DefD), 0)) := Lib.hid (by rw [← HX.out, if_neg (by omega)])
        have HN0 : Hid (0 < val 6 2) := Lib.hid (by omega)
        have HTL := Lib.hid (HTELL.out w3 HD1.out.ok HD1.out.map x (by omega) hx)
        have cR := HR1.out.cell
        clear hx0 hA hN HX HTELL
        go_wp2_with fail
        refine (HP.out _ HD1.out.row _ _ _ (by decide) (by decide)).mono ?_
        rintro e w' ⟨rfl, rfl⟩
        go_wp2_with fail
        by_cases hin : x ∈ told
        · have HE : Hid (X = (told, .zero, 5)) := Lib.hid (by rw [HE1.out, if_pos hin])
          rw [if_pos hin, if_pos hin] at HTL
          clear HE1 hin
          refine HTL.out.mono ?_
          rintro e w4 ⟨rfl, hk3, hm3⟩
          have HD3 := Lib.hid (HD1.out.on hk3 hm3)
          clear hk3 hm3 HTL cR
          rw [errV_five]
          have FS := Lib.hid (four_stores HD3.out.box (.int .i64 0) (.bool false) (.string ⟨#[]⟩) (.slice none 0 0))
          have hr := fun (cs : Array Value) (j : Nat) => cell_setRow_same w4 (w.heap.size + 1) j _ cs _ _ HD3.out.box
          have r0 := hr #[.int .i64 0, .bool false, .string ⟨#[]⟩, .slice none 0 0] 0
          have r1 := hr #[.int .i64 0, .bool false, .string ⟨#[]⟩, .slice none 0 0] 1
          have r2 := hr #[.int .i64 0, .bool false, .string ⟨#[]⟩, .slice none 0 0] 2
          have r3 := hr #[.int .i64 0, .bool false, .string ⟨#[]⟩, .slice none 0 0] 3
          simp only [List.getElem?_toArray, List.getElem?_cons_zero, List.getElem?_cons_succ] at r0 r1 r2 r3
          have R0 := Lib.hid r0
          have R1 := Lib.hid r1
          have R2 := Lib.hid r2
          have R3 := Lib.hid r3
          clear r0 r1 r2 r3 hr
          have f0 := HFR.out _ _ HD3.out.box 0
          have f1 := HFR.out _ _ HD3.out.box 1
          have f2 := HFR.out _ _ HD3.out.box 2
          have f3 := HFR.out _ _ HD3.out.box 3
          have c0 : w4.cell? ⟨w.heap.size + 1, 0, none⟩ = some (.int .i64 0) := by rw [cell_of_row w4 (w.heap.size + 1) 0 _ _ _ HD3.out.box]; rfl
          have c1 : w4.cell? ⟨w.heap.size + 1, 1, none⟩ = some (.bool false) := by rw [cell_of_row w4 (w.heap.size + 1) 1 _ _ _ HD3.out.box]; rfl
          have c2 : w4.cell? ⟨w.heap.size + 1, 2, none⟩ = some (.string .empty) := by rw [cell_of_row w4 (w.heap.size + 1) 2 _ _ _ HD3.out.box]; rfl
          have c3 : w4.cell? ⟨w.heap.size + 1, 3, none⟩ = some (.slice none 0 0) := by rw [cell_of_row w4 (w.heap.size + 1) 3 _ _ _ HD3.out.box]; rfl
          go_wp2_with fail
          rw [HE.out]
          rw [FS.out]
          refine bodyPost_ret (by simp [results, Tryz.results93, go_sem, R0.out, R1.out, R2.out, R3.out]; try rfl) rfl ?_
          exact DefAns.no HD3.out _ rfl rfl
        · have HE2 : Hid (X = if 64 < val 6 2 then (told ++ [x], DefD.zero, 2)
            else if CX.2 ≠ 0 then (told ++ [x], DefD.zero, CX.2)
            else if sysOfV (CX.1.getD 0 .empty).data.toList ≠ val 8 4 then (told ++ [x], DefD.zero, 3)
            else (told ++ [x], (⟨x, decide (val 2 2 % 2 = 1), CX.1.getD 0 .empty, CX.1.drop 1⟩ : DefD), 0)) := Lib.hid (by rw [HE1.out, if_neg hin])
          rw [if_neg hin, if_neg hin] at HTL
          clear HE1 hin
          refine HTL.out.mono ?_
          rintro e w4 ⟨rfl, hk3, hm3⟩
          have HD3 := Lib.hid (HD1.out.on hk3 hm3)
          have HR3 : Hid (InBox w4 w.heap.size (rdV r) 201) := Lib.hid (block_kp HR1.out hk3 HD1.out.map.isMap)
          clear hk3 hm3 HTL cR HD1 HR1
          rw [errV0x]
          generalize htold : told ++ [x] = told2 at *
          clear htold
          by_cases h64 : 64 < val 6 2
          · have h64i : (64 : Int) < (val 6 2 : Int) := by omega
            have HE : Hid (X = (told2, .zero, 2)) := Lib.hid (by rw [HE2.out, if_pos h64])
            clear h64 HE2
            have FS := Lib.hid (four_stores HD3.out.box (.int .i64 0) (.bool false) (.string ⟨#[]⟩) (.slice none 0 0))
            have hr := fun (cs : Array Value) (j : Nat) => cell_setRow_same w4 (w.heap.size + 1) j _ cs _ _ HD3.out.box
            have r0 := hr #[.int .i64 0, .bool false, .string ⟨#[]⟩, .slice none 0 0] 0
            have r1 := hr #[.int .i64 0, .bool false, .string ⟨#[]⟩, .slice none 0 0] 1
            have r2 := hr #[.int .i64 0, .bool false, .string ⟨#[]⟩, .slice none 0 0] 2
            have r3 := hr #[.int .i64 0, .bool false, .string ⟨#[]⟩, .slice none 0 0] 3
            simp only [List.getElem?_toArray, List.getElem?_cons_zero, List.getElem?_cons_succ] at r0 r1 r2 r3
            have R0 := Lib.hid r0
            have R1 := Lib.hid r1
            have R2 := Lib.hid r2
            have R3 := Lib.hid r3
            clear r0 r1 r2 r3 hr
            have f0 := HFR.out _ _ HD3.out.box 0
            have f1 := HFR.out _ _ HD3.out.box 1
            have f2 := HFR.out _ _ HD3.out.box 2
            have f3 := HFR.out _ _ HD3.out.box 3
            have c0 : w4.cell? ⟨w.heap.size + 1, 0, none⟩ = some (.int .i64 0) := by rw [cell_of_row w4 (w.heap.size + 1) 0 _ _ _ HD3.out.box]; rfl
            have c1 : w4.cell? ⟨w.heap.size + 1, 1, none⟩ = some (.bool false) := by rw [cell_of_row w4 (w.heap.size + 1) 1 _ _ _ HD3.out.box]; rfl
            have c2 : w4.cell? ⟨w.heap.size + 1, 2, none⟩ = some (.string .empty) := by rw [cell_of_row w4 (w.heap.size + 1) 2 _ _ _ HD3.out.box]; rfl
            have c3 : w4.cell? ⟨w.heap.size + 1, 3, none⟩ = some (.slice none 0 0) := by rw [cell_of_row w4 (w.heap.size + 1) 3 _ _ _ HD3.out.box]; rfl
            go_wp2_with fail
            rw [HE.out]
            rw [FS.out]
            refine bodyPost_ret (by simp [results, Tryz.results93, go_sem, R0.out, R1.out, R2.out, R3.out]; try rfl) rfl ?_
            exact DefAns.no HD3.out _ rfl rfl
          · have h64i : ¬ (64 : Int) < (val 6 2 : Int) := by omega
            have HE3 : Hid (X = if CX.2 ≠ 0 then (told2, DefD.zero, CX.2)
              else if sysOfV (CX.1.getD 0 .empty).data.toList ≠ val 8 4 then (told2, DefD.zero, 3)
              else (told2, (⟨x, decide (val 2 2 % 2 = 1), CX.1.getD 0 .empty, CX.1.drop 1⟩ : DefD), 0)) := Lib.hid (by rw [HE2.out, if_neg h64])
            have HN64 : Hid (val 6 2 ≤ 64) := Lib.hid (by omega)
            clear h64 HE2
            go_wp2_with fail
            have W4B : Hid (Below w4.heap.size w4 (w4.alloc (.cells #[.slice none 0 0] 31)).drew) := Lib.hid (((Below.refl _ _).alloc (Nat.le_refl _) _).drew)
            have HQ : Hid (NQ r told2 w4 w.heap.size w4.heap.size (val 6 2) [] (w4.alloc (.cells #[.slice none 0 0] 31)).drew) := Lib.hid (by
              refine ⟨⟨HD3.out.ok, HD3.out.map.below W4B.out, Kp.below W4B.out, HR3.out.below W4B.out, ⟨none, 0, ?_, OwnS.nil _ _ _ _⟩, Nat.le_refl _, Nat.ne_of_lt HR3.out.lt⟩, by simpa using HN64.out⟩
              exact heap_alloc_new w4 (.cells #[.slice none 0 0] 31))
            have HCALL := Lib.hid (HCH.out _ _ _ _ _ (by have := HN64.out; omega) HQ.out)
            have cR : (w4.alloc (.cells #[.slice none 0 0] 31)).drew.cell? ⟨w.heap.size, 0, none⟩ = some (.pointer (some ⟨r.R, 0, none⟩)) := (HR3.out.below W4B.out).cell
            have hpn := (HP.out _ (HD3.out.below W4B.out).row 12 4 (c - 12) (by decide) (by decide)).mono (fun e w' h => And.intro h.1 h.2.symm)
            have ec : ((c : Int) - 12).toNat = c - 12 := by omega
            have ic16 : (16 : Int) ≤ (c : Int) := by omega
            have hc12 : ¬ c = 12 := by omega
            refine wp_region_still_tail 7 (by kernel_rfl) (by kernel_rfl) ?_
            simp only [List.take_succ_cons, List.take_zero, List.drop_succ_cons, List.drop_zero]
            change wpStill _ _ (World.drew (w4.alloc (.cells #[.slice none 0 0] 31))) _ _ _
            still_step
            still_step
            still_step
            still_step
            still_call hpn
            still_step
            still_step
            refine wpStill_nil ?_
            change wpList _ _ _ _ _ (World.drew (w4.alloc (.cells #[.slice none 0 0] 31)))
            go_wp2_with fail
            refine HCALL.out.mono ?_
            rintro e w5 ⟨rfl, k5, hlk, hroom⟩
            have HD5 := Lib.hid (HD3.out.on hlk.kp hlk.map)
            obtain ⟨la, lc, hbox, hl5⟩ := hlk.lbox
            rw [nameRows_length] at hbox hl5
            have HBX := Lib.hid hbox
            have HL5 := Lib.hid hl5
            clear hlk hroom hbox hl5 HCALL hpn cR ec ic16 hc12 HCH
            by_cases hcx : CX.2 = 0
            · have hlen := HLEN.out hcx
              rw [List.length_nil, Nat.zero_add] at hlen
              rw [hcx, errV0x]
              have HE4 : Hid (X = if sysOfV (CX.1.getD 0 .empty).data.toList ≠ val 8 4 then (told2, DefD.zero, 3)
                else (told2, (⟨x, decide (val 2 2 % 2 = 1), CX.1.getD 0 .empty, CX.1.drop 1⟩ : DefD), 0)) := Lib.hid (by rw [HE3.out, if_neg (by omega)])
              obtain ⟨gl, rfl, hgl⟩ : ∃ gl, la = some ⟨gl, 0, none⟩ ∧ w4.heap.size ≤ gl := by
                rcases HL5.out.1.2 with ⟨h1, h2⟩ | ⟨gg, cp, cur, h1, h2, -⟩
                · have := HN0.out
                  rw [nameRows_length] at h2
                  omega
                · simp only [Value.slice.injEq] at h1
                  exact ⟨gg, h1.1, h2⟩
              have hlcap : CX.1.length ≤ lc := by
                rcases HL5.out.1.2 with ⟨h1, h2⟩ | ⟨gg, cp, cur, h1, -, -, h2, -⟩
                · cases h1
                · simp only [Value.slice.injEq] at h1
                  rw [nameRows_length] at h2
                  omega
              have HTX : Hid (∀ j t, CX.1[j]? = some t → w5.cell? ⟨gl, j, none⟩ = some (.string t)) := Lib.hid (fun j t hj => by
                have hjl : j < CX.1.length := (List.getElem?_eq_some_iff.1 hj).1
                have ho := HL5.out.1
                rw [nameRows_length] at ho
                have := World.ownsRow.cellAt ho j (by omega)
                rw [this, flat_names, List.getElem?_map, hj]
                rfl)
              have hVlt : w.heap.size + 1 < w4.heap.size := lt_of_block HD3.out.box
              have HVLT := Lib.hid hVlt
              have HGL := Lib.hid hgl
              have hn0 := HN0.out
              have hn64 := HN64.out
              obtain ⟨s0, hs0⟩ : ∃ s0, CX.1.getD 0 .empty = s0 := ⟨_, rfl⟩
              have hs0g : CX.1[0]? = some s0 := by
                rw [← hs0, List.getD, List.getElem?_eq_getElem (by omega)]
                rfl
              have hs0s : s0.size ≤ 255 := HSIZE.out s0 (List.mem_of_getElem? hs0g)
              have cs0 : w5.cell? ⟨gl, 0, none⟩ = some (.string s0) := HTX.out 0 s0 hs0g
              have CS0 := Lib.hid cs0
              have cL : w5.cell? ⟨w4.heap.size, 0, none⟩ = some (.slice (some ⟨gl, 0, none⟩) CX.1.length lc) := HBX.out.cell
              have CLL := Lib.hid cL
              rw [hs0] at HE4
              obtain ⟨T1, hT1⟩ : ∃ T1, CX.1.drop 1 = T1 := ⟨_, rfl⟩
              have HTT : Hid (∀ j t, T1[j]? = some t → w5.cell? ⟨gl, 1 + j, none⟩ = some (.string t)) := Lib.hid (fun j t hj => by
                refine HTX.out (1 + j) t ?_
                rw [← hT1, List.getElem?_drop] at hj
                exact hj)
              have hT1l : T1.length = CX.1.length - 1 := by rw [← hT1, List.length_drop]
              rw [hT1] at HE4
              generalize CX.1.length = n at *
              have HT1L := Lib.hid hT1l
              have HSY := Lib.hid (fun (w1 : World) => sysvV_any s0 w1 (by omega))
              have hsy := sysOf_small s0.data.toList
              generalize sysOfV s0.data.toList = S at *
              have hSw : IntKind.u64.wrap (S : Int) = (S : Int) := by rw [IntKind.wrap_u64]; omega
              have hni : (0 : Int) < (n : Int) := by omega
              have hni1 : (1 : Int) ≤ (n : Int) := by omega
              have hnl : (n : Int) ≤ (lc : Int) := by omega
              have HNB : Hid (n ≤ 64 ∧ 0 < n) := Lib.hid ⟨by omega, by omega⟩
              clear hT1l hT1 hs0 hs0g hs0s hlen HTX HL5 HBX HSIZE HLEN HE3 hgl hVlt hn0 hn64 hlcap HN0 HN64 hcx HSMALL
              by_cases hS : S = val 8 4
              · have hne : ((S : Int) != (val 8 4 : Int)) = false := by rw [hS]; simp
                have HE : Hid (X = (told2, (⟨x, decide (val 2 2 % 2 = 1), s0, T1⟩ : DefD), 0)) := Lib.hid (by rw [HE4.out, if_neg (by omega)])
                clear hS
                go_wp2_with fail
                go_quiet (first | (go_at_call 110; exact Calls.quiet_of_same ((HSY.out _).mono (by rintro e w' ⟨rfl, rfl⟩; exact ⟨rfl, rfl⟩))) | (go_at_call 48; exact Calls.quiet_of_same ((HP.out _ (HD5.out.below (below_drewN (Below.refl _ _) _)).row _ _ _ (by decide) (by decide)).mono (by rintro e w' ⟨rfl, rfl⟩; exact ⟨rfl, rfl⟩))))
                have HD6 := Lib.hid (HD5.out.below (below_drewN (Below.refl _ _) nq))
                have HB6 : Hid (Below w5.heap.size w5 (w5.drewN nq)) := Lib.hid (below_drewN (Below.refl _ _) nq)
                have CS6 : Hid ((w5.drewN nq).cell? ⟨gl, 0, none⟩ = some (.string s0)) := Lib.hid (by rw [HB6.out.cell (World.block_lt_of_cell? w5 _ CS0.out)]; exact CS0.out)
                have CL6 : Hid ((w5.drewN nq).cell? ⟨w4.heap.size, 0, none⟩ = some (.slice (some ⟨gl, 0, none⟩) n lc)) := Lib.hid (by rw [HB6.out.cell (World.block_lt_of_cell? w5 _ CLL.out)]; exact CLL.out)
                have HTT6 : Hid (∀ j t, T1[j]? = some t → (w5.drewN nq).cell? ⟨gl, 1 + j, none⟩ = some (.string t)) := Lib.hid (fun j t hj => by rw [HB6.out.cell (World.block_lt_of_cell? w5 _ (HTT.out j t hj))]; exact HTT.out j t hj)
                clear cs0 cL HB6 CS0 CLL HTT HD5 HSY
                generalize w5.drewN nq = w6 at *
                have KS : Hid (∀ w', SS (w.heap.size + 1) 204 w6 w' → w'.cell? ⟨w4.heap.size, 0, none⟩ = some (.slice (some ⟨gl, 0, none⟩) n lc) ∧ w'.cell? ⟨gl, 0, none⟩ = some (.string s0) ∧ w'.cell? ⟨w.heap.size + 1, 0, none⟩ = some (oldCell w' (w.heap.size + 1) 0) ∧ w'.cell? ⟨w.heap.size + 1, 1, none⟩ = some (oldCell w' (w.heap.size + 1) 1) ∧ w'.cell? ⟨w.heap.size + 1, 2, none⟩ = some (oldCell w' (w.heap.size + 1) 2) ∧ w'.cell? ⟨w.heap.size + 1, 3, none⟩ = some (oldCell w' (w.heap.size + 1) 3) ∧ w'.frozen? ⟨w.heap.size + 1, 0, none⟩ = false ∧ w'.frozen? ⟨w.heap.size + 1, 1, none⟩ = false ∧ w'.frozen? ⟨w.heap.size + 1, 2, none⟩ = false ∧ w'.frozen? ⟨w.heap.size + 1, 3, none⟩ = false) := Lib.hid (fun w' h => by
                  have h1 := HVLT.out
                  have h2 := HGL.out
                  obtain ⟨⟨o0, o1, o2, o3⟩, f0, f1, f2, f3⟩ := h.2.old
                  exact ⟨h.cell CL6.out (by omega), h.cell CS6.out (by omega), o0, o1, o2, o3, f0, f1, f2, f3⟩)
                have KB : Hid (∀ w', SS (w.heap.size + 1) 204 w6 w' → BRow w' (some ⟨g, 0, none⟩) b) := Lib.hid (fun w' h => by
                  refine ⟨fun i hi => ?_, HD6.out.row.2⟩
                  obtain ⟨b', o', e', hcell⟩ := HD6.out.row.1 i hi
                  refine ⟨b', o', e', h.cell hcell ?_⟩
                  simp only [Option.some.injEq, Addr.mk.injEq] at e'
                  have := HG.out
                  omega)
                have KT : Hid (∀ w', SS (w.heap.size + 1) 204 w6 w' → ∀ j t, T1[j]? = some t → w'.cell? ((⟨gl, 1, none⟩ : Addr).add j) = some (.string t)) := Lib.hid (fun w' h j t hj => by
                  rw [WideShapes.add_plain]
                  have h1 := HVLT.out
                  have h2 := HGL.out
                  exact h.cell (HTT6.out j t hj) (by omega))
                have HS0 : Hid (SS (w.heap.size + 1) 204 w6 w6.drew) := Lib.hid ⟨⟨rfl, rfl, rfl, Nat.le_refl _, fun _ _ _ => rfl⟩, _, _, _, _, HD6.out.box⟩
                have hand1 : bits .and .u64 (val 2 2 : Int) 1 = ((val 2 2 % 2 : Nat) : Int) := by
                  rw [show (1 : Int) = ((1 : Nat) : Int) from rfl, u64_and_nat _ _ (by omega) (by omega), Nat.and_one_is_mod]
                have hq2 : val 2 2 % 2 = 0 ∨ val 2 2 % 2 = 1 := by omega
                have HBIT : Hid ((((val 2 2 % 2 : Nat) : Int) != 0) = decide (val 2 2 % 2 = 1)) := Lib.hid (by rcases hq2 with h | h <;> rw [h] <;> rfl)
                clear hq2
                generalize val 2 2 % 2 = q at *
                have hc2 : ¬ c = 2 := by omega
                have hcap4 : (4 : Int) ≤ (c : Int) := by omega
                by_cases hlc : lc = 1
                · obtain rfl : n = 1 := by omega
                  subst hlc
                  have HT1N : Hid (T1 = []) := Lib.hid (List.length_eq_zero_iff.1 (by have := HT1L.out; omega))
                  go_wp2_with fail
                  go_region_held3 (fun w' => Hid (SS (w.heap.size + 1) 204 w6 w') ∧ w'.cell? ⟨w4.heap.size, 0, none⟩ = some (.slice (some ⟨gl, 0, none⟩) 1 1) ∧ w'.cell? ⟨gl, 0, none⟩ = some (.string s0) ∧ w'.cell? ⟨w.heap.size + 1, 0, none⟩ = some (oldCell w' (w.heap.size + 1) 0) ∧ w'.cell? ⟨w.heap.size + 1, 1, none⟩ = some (oldCell w' (w.heap.size + 1) 1) ∧ w'.cell? ⟨w.heap.size + 1, 2, none⟩ = some (oldCell w' (w.heap.size + 1) 2) ∧ w'.cell? ⟨w.heap.size + 1, 3, none⟩ = some (oldCell w' (w.heap.size + 1) 3) ∧ w'.frozen? ⟨w.heap.size + 1, 0, none⟩ = false ∧ w'.frozen? ⟨w.heap.size + 1, 1, none⟩ = false ∧ w'.frozen? ⟨w.heap.size + 1, 2, none⟩ = false ∧ w'.frozen? ⟨w.heap.size + 1, 3, none⟩ = false)
                    (first | assumption | exact ⟨HS0, KS.out _ HS0.out⟩ | exact ⟨by assumption, KS.out _ (Hid.out (by assumption))⟩ | exact ⟨Lib.hid (SS.stores (Hid.out (by assumption)) _ _ _ _), KS.out _ (SS.stores (Hid.out (by assumption)) _ _ _ _)⟩)
                    (first
                      | (refine step_copy_texts rfl (.const (.slice none 0 0)) (.tmp 79) texts_t text_info rfl ⟨gl, 0, none⟩ 0 0 T1 rfl rfl HT1L.out (fun j t hj => by rw [HT1N.out] at hj; cases hj) (by unfold maxLen; omega) (by omega) ?_; intro pa pc w7 hown7 hb7; have HS7 : Hid (SS (w.heap.size + 1) 204 w6 w7) := Lib.hid (SS.below (Hid.out (by assumption)) hb7); have HO7 := Lib.hid (OwnT.mono hown7 (show w6.heap.size ≤ _ from (Hid.out (show Hid (SS (w.heap.size + 1) 204 w6 _) by assumption)).1.size)); clear hown7 hb7)
                      | (go_simp; go_at_call 48; refine (HP.out _ (KB.out _ (Hid.out (by assumption))) _ _ _ (by decide) (by decide)).mono ?_; rintro e w' ⟨rfl, rfl⟩))
                  all_goals
                    obtain ⟨u0, u1, u2, u3, hb7⟩ := HS7.out.2
                    have HB7 := Lib.hid hb7
                    have FS := Lib.hid (four_stores hb7 (.int .i64 (x : Int)) (.bool ((q : Int) != 0)) (.string s0) (.slice pa (0) pc))
                    have hr := fun (j : Nat) => cell_setRow_same w7 (w.heap.size + 1) j _ #[.int .i64 (x : Int), .bool ((q : Int) != 0), .string s0, .slice pa (0) pc] _ _ hb7
                    have r0 := hr 0
                    have r1 := hr 1
                    have r2 := hr 2
                    have r3 := hr 3
                    simp only [List.getElem?_toArray, List.getElem?_cons_zero, List.getElem?_cons_succ] at r0 r1 r2 r3
                    have R0 := Lib.hid r0
                    have R1 := Lib.hid r1
                    have R2 := Lib.hid r2
                    have R3 := Lib.hid r3
                    clear r0 r1 r2 r3 hr hb7
                    go_wp2_with fail
                    rw [HE.out]
                    rw [FS.out]
                    refine bodyPost_ret (by simp [results, Tryz.results93, go_sem, R0.out, R1.out, R2.out, R3.out]; try rfl) rfl ?_
                    have hgr := (HS7.out.set (.int .i64 (x : Int)) (.bool ((q : Int) != 0)) (.string s0) (.slice pa (0) pc)).1
                    have hsz := HD6.out.kp.size
                    refine ⟨pa, pc, ?_, ?_, ?_, ?_⟩
                    · show _ = Ending.returned (.tuple #[.agg #[.int .i64 (x : Int), .bool (decide (q = 1)), .string s0, .slice pa T1.length pc], .nilIface])
                      rw [← HBIT.out, HT1L.out]
                      try rfl
                    · have ho := (OwnS.mono HO7.out.asS hsz).setRowO HB7.out (by decide) #[.int .i64 (x : Int), .bool ((q : Int) != 0), .string s0, .slice pa (0) pc]
                      show OwnS _ _ _ _ (.slice pa T1.length pc) (nameRows T1)
                      rw [HT1L.out]
                      exact ho
                    · exact HD6.out.map.kept hgr (fun e1 => by simp only [Option.some.injEq] at e1; exact HD6.out.neV e1)
                    · exact HD6.out.kp.grown hgr (fun k hk => by simp only [Option.some.injEq] at hk; omega)
                · have hlc2 : ¬ (lc : Int) = 1 := by omega
                  have hnA : (0 : Int) < (n : Int) := by have := HNB.out; omega
                  have hnD : 0 < n := by omega
                  have hnE : ¬ n = 0 := by omega
                  go_wp2_with fail
                  go_region_held3 (fun w' => Hid (SS (w.heap.size + 1) 204 w6 w') ∧ w'.cell? ⟨w4.heap.size, 0, none⟩ = some (.slice (some ⟨gl, 0, none⟩) n lc) ∧ w'.cell? ⟨gl, 0, none⟩ = some (.string s0) ∧ w'.cell? ⟨w.heap.size + 1, 0, none⟩ = some (oldCell w' (w.heap.size + 1) 0) ∧ w'.cell? ⟨w.heap.size + 1, 1, none⟩ = some (oldCell w' (w.heap.size + 1) 1) ∧ w'.cell? ⟨w.heap.size + 1, 2, none⟩ = some (oldCell w' (w.heap.size + 1) 2) ∧ w'.cell? ⟨w.heap.size + 1, 3, none⟩ = some (oldCell w' (w.heap.size + 1) 3) ∧ w'.frozen? ⟨w.heap.size + 1, 0, none⟩ = false ∧ w'.frozen? ⟨w.heap.size + 1, 1, none⟩ = false ∧ w'.frozen? ⟨w.heap.size + 1, 2, none⟩ = false ∧ w'.frozen? ⟨w.heap.size + 1, 3, none⟩ = false)
                    (first | assumption | exact ⟨HS0, KS.out _ HS0.out⟩ | exact ⟨by assumption, KS.out _ (Hid.out (by assumption))⟩ | exact ⟨Lib.hid (SS.stores (Hid.out (by assumption)) _ _ _ _), KS.out _ (SS.stores (Hid.out (by assumption)) _ _ _ _)⟩)
                    (first
                      | (refine step_copy_texts rfl (.const (.slice none 0 0)) (.tmp 79) texts_t text_info rfl ⟨gl, 1, none⟩ (n - 1) (lc - 1) T1 rfl rfl HT1L.out (KT.out _ (Hid.out (by assumption))) (by unfold maxLen; have := HNB.out; omega) (by have := HNB.out; omega) ?_; intro pa pc w7 hown7 hb7; have HS7 : Hid (SS (w.heap.size + 1) 204 w6 w7) := Lib.hid (SS.below (Hid.out (by assumption)) hb7); have HO7 := Lib.hid (OwnT.mono hown7 (show w6.heap.size ≤ _ from (Hid.out (show Hid (SS (w.heap.size + 1) 204 w6 _) by assumption)).1.size)); clear hown7 hb7)
                      | (go_simp; go_at_call 48; refine (HP.out _ (KB.out _ (Hid.out (by assumption))) _ _ _ (by decide) (by decide)).mono ?_; rintro e w' ⟨rfl, rfl⟩))
                  all_goals
                    obtain ⟨u0, u1, u2, u3, hb7⟩ := HS7.out.2
                    have HB7 := Lib.hid hb7
                    have FS := Lib.hid (four_stores hb7 (.int .i64 (x : Int)) (.bool ((q : Int) != 0)) (.string s0) (.slice pa (n - 1) pc))
                    have hr := fun (j : Nat) => cell_setRow_same w7 (w.heap.size + 1) j _ #[.int .i64 (x : Int), .bool ((q : Int) != 0), .string s0, .slice pa (n - 1) pc] _ _ hb7
                    have r0 := hr 0
                    have r1 := hr 1
                    have r2 := hr 2
                    have r3 := hr 3
                    simp only [List.getElem?_toArray, List.getElem?_cons_zero, List.getElem?_cons_succ] at r0 r1 r2 r3
                    have R0 := Lib.hid r0
                    have R1 := Lib.hid r1
                    have R2 := Lib.hid r2
                    have R3 := Lib.hid r3
                    clear r0 r1 r2 r3 hr hb7
                    go_wp2_with fail
                    rw [HE.out]
                    rw [FS.out]
                    refine bodyPost_ret (by simp [results, Tryz.results93, go_sem, R0.out, R1.out, R2.out, R3.out]; try rfl) rfl ?_
                    have hgr := (HS7.out.set (.int .i64 (x : Int)) (.bool ((q : Int) != 0)) (.string s0) (.slice pa (n - 1) pc)).1
                    have hsz := HD6.out.kp.size
                    refine ⟨pa, pc, ?_, ?_, ?_, ?_⟩
                    · show _ = Ending.returned (.tuple #[.agg #[.int .i64 (x : Int), .bool (decide (q = 1)), .string s0, .slice pa T1.length pc], .nilIface])
                      rw [← HBIT.out, HT1L.out]
                      try rfl
                    · have ho := (OwnS.mono HO7.out.asS hsz).setRowO HB7.out (by decide) #[.int .i64 (x : Int), .bool ((q : Int) != 0), .string s0, .slice pa (n - 1) pc]
                      show OwnS _ _ _ _ (.slice pa T1.length pc) (nameRows T1)
                      rw [HT1L.out]
                      exact ho
                    · exact HD6.out.map.kept hgr (fun e1 => by simp only [Option.some.injEq] at e1; exact HD6.out.neV e1)
                    · exact HD6.out.kp.grown hgr (fun k hk => by simp only [Option.some.injEq] at hk; omega)
              · have hne : ((S : Int) != (val 8 4 : Int)) = true := by
                  rw [bne_iff_ne]; omega
                have HE : Hid (X = (told2, .zero, 3)) := Lib.hid (by rw [HE4.out, if_pos hS])
                clear hS
                go_wp2_with fail
                go_quiet (first | (go_at_call 110; exact Calls.quiet_of_same ((HSY.out _).mono (by rintro e w' ⟨rfl, rfl⟩; exact ⟨rfl, rfl⟩))) | (go_at_call 48; exact Calls.quiet_of_same ((HP.out _ (HD5.out.below (below_drewN (Below.refl _ _) _)).row _ _ _ (by decide) (by decide)).mono (by rintro e w' ⟨rfl, rfl⟩; exact ⟨rfl, rfl⟩))))
                have HD6 := Lib.hid (HD5.out.below (below_drewN (Below.refl _ _) nq))
                clear cs0 cL
                generalize w5.drewN nq = w6 at *
                have FS := Lib.hid (four_stores HD6.out.box (.int .i64 0) (.bool false) (.string ⟨#[]⟩) (.slice none 0 0))
                have hr := fun (cs : Array Value) (j : Nat) => cell_setRow_same w6 (w.heap.size + 1) j _ cs _ _ HD6.out.box
                have r0 := hr #[.int .i64 0, .bool false, .string ⟨#[]⟩, .slice none 0 0] 0
                have r1 := hr #[.int .i64 0, .bool false, .string ⟨#[]⟩, .slice none 0 0] 1
                have r2 := hr #[.int .i64 0, .bool false, .string ⟨#[]⟩, .slice none 0 0] 2
                have r3 := hr #[.int .i64 0, .bool false, .string ⟨#[]⟩, .slice none 0 0] 3
                simp only [List.getElem?_toArray, List.getElem?_cons_zero, List.getElem?_cons_succ] at r0 r1 r2 r3
                have R0 := Lib.hid r0
                have R1 := Lib.hid r1
                have R2 := Lib.hid r2
                have R3 := Lib.hid r3
                clear r0 r1 r2 r3 hr
                have f0 := HFR.out _ _ HD6.out.box 0
                have f1 := HFR.out _ _ HD6.out.box 1
                have f2 := HFR.out _ _ HD6.out.box 2
                have f3 := HFR.out _ _ HD6.out.box 3
                have c0 : w6.cell? ⟨w.heap.size + 1, 0, none⟩ = some (.int .i64 0) := by rw [cell_of_row w6 (w.heap.size + 1) 0 _ _ _ HD6.out.box]; rfl
                have c1 : w6.cell? ⟨w.heap.size + 1, 1, none⟩ = some (.bool false) := by rw [cell_of_row w6 (w.heap.size + 1) 1 _ _ _ HD6.out.box]; rfl
                have c2 : w6.cell? ⟨w.heap.size + 1, 2, none⟩ = some (.string .empty) := by rw [cell_of_row w6 (w.heap.size + 1) 2 _ _ _ HD6.out.box]; rfl
                have c3 : w6.cell? ⟨w.heap.size + 1, 3, none⟩ = some (.slice none 0 0) := by rw [cell_of_row w6 (w.heap.size + 1) 3 _ _ _ HD6.out.box]; rfl
                go_wp2_with fail
                rw [HE.out]
                rw [FS.out]
                refine bodyPost_ret (by simp [results, Tryz.results93, go_sem, R0.out, R1.out, R2.out, R3.out]; try rfl) rfl ?_
                exact DefAns.no HD6.out _ rfl rfl
            · have HE : Hid (X = (told2, .zero, CX.2)) := Lib.hid (by rw [HE3.out, if_pos hcx])
              rw [errVp (by omega)]
              have FS := Lib.hid (four_stores HD5.out.box (.int .i64 0) (.bool false) (.string ⟨#[]⟩) (.slice none 0 0))
              have hr := fun (cs : Array Value) (j : Nat) => cell_setRow_same w5 (w.heap.size + 1) j _ cs _ _ HD5.out.box
              have r0 := hr #[.int .i64 0, .bool false, .string ⟨#[]⟩, .slice none 0 0] 0
              have r1 := hr #[.int .i64 0, .bool false, .string ⟨#[]⟩, .slice none 0 0] 1
              have r2 := hr #[.int .i64 0, .bool false, .string ⟨#[]⟩, .slice none 0 0] 2
              have r3 := hr #[.int .i64 0, .bool false, .string ⟨#[]⟩, .slice none 0 0] 3
              simp only [List.getElem?_toArray, List.getElem?_cons_zero, List.getElem?_cons_succ] at r0 r1 r2 r3
              have R0 := Lib.hid r0
              have R1 := Lib.hid r1
              have R2 := Lib.hid r2
              have R3 := Lib.hid r3
              clear r0 r1 r2 r3 hr
              have f0 := HFR.out _ _ HD5.out.box 0
              have f1 := HFR.out _ _ HD5.out.box 1
              have f2 := HFR.out _ _ HD5.out.box 2
              have f3 := HFR.out _ _ HD5.out.box 3
              have c0 : w5.cell? ⟨w.heap.size + 1, 0, none⟩ = some (.int .i64 0) := by rw [cell_of_row w5 (w.heap.size + 1) 0 _ _ _ HD5.out.box]; rfl
              have c1 : w5.cell? ⟨w.heap.size + 1, 1, none⟩ = some (.bool false) := by rw [cell_of_row w5 (w.heap.size + 1) 1 _ _ _ HD5.out.box]; rfl
              have c2 : w5.cell? ⟨w.heap.size + 1, 2, none⟩ = some (.string .empty) := by rw [cell_of_row w5 (w.heap.size + 1) 2 _ _ _ HD5.out.box]; rfl
              have c3 : w5.cell? ⟨w.heap.size + 1, 3, none⟩ = some (.slice none 0 0) := by rw [cell_of_row w5 (w.heap.size + 1) 3 _ _ _ HD5.out.box]; rfl
              go_wp2_with fail
              rw [HE.out]
              rw [FS.out]
              refine bodyPost_ret (by simp [results, Tryz.results93, go_sem, R0.out, R1.out, R2.out, R3.out]; try rfl) rfl ?_
              exact DefAns.no HD5.out _ rfl (errVp (by omega)).symm
  · have hA1 : ((val 0 2 : Int) != 1) = true := by
      rw [bne_iff_ne]; omega
    have HE : Hid (X = (told, .zero, 3)) := Lib.hid (by rw [← HX.out, if_pos (.inl hA)])
    clear hA
    go_wp2_with fail
    refine (HP.out _ HD1.out.row _ _ _ (by decide) (by decide)).mono ?_
    rintro e w' ⟨rfl, rfl⟩
    have FS := Lib.hid (four_stores HD1.out.box (.int .i64 0) (.bool false) (.string ⟨#[]⟩) (.slice none 0 0))
    have hr := fun (cs : Array Value) (j : Nat) => cell_setRow_same w3 (w.heap.size + 1) j _ cs _ _ HD1.out.box
    have r0 := hr #[.int .i64 0, .bool false, .string ⟨#[]⟩, .slice none 0 0] 0
    have r1 := hr #[.int .i64 0, .bool false, .string ⟨#[]⟩, .slice none 0 0] 1
    have r2 := hr #[.int .i64 0, .bool false, .string ⟨#[]⟩, .slice none 0 0] 2
    have r3 := hr #[.int .i64 0, .bool false, .string ⟨#[]⟩, .slice none 0 0] 3
    simp only [List.getElem?_toArray, List.getElem?_cons_zero, List.getElem?_cons_succ] at r0 r1 r2 r3
    have R0 := Lib.hid r0
    have R1 := Lib.hid r1
    have R2 := Lib.hid r2
    have R3 := Lib.hid r3
    clear r0 r1 r2 r3 hr
    have f0 := HFR.out _ _ HD1.out.box 0
    have f1 := HFR.out _ _ HD1.out.box 1
    have f2 := HFR.out _ _ HD1.out.box 2
    have f3 := HFR.out _ _ HD1.out.box 3
    have c0 : w3.cell? ⟨w.heap.size + 1, 0, none⟩ = some (.int .i64 0) := by rw [cell_of_row w3 (w.heap.size + 1) 0 _ _ _ HD1.out.box]; rfl
    have c1 : w3.cell? ⟨w.heap.size + 1, 1, none⟩ = some (.bool false) := by rw [cell_of_row w3 (w.heap.size + 1) 1 _ _ _ HD1.out.box]; rfl
    have c2 : w3.cell? ⟨w.heap.size + 1, 2, none⟩ = some (.string .empty) := by rw [cell_of_row w3 (w.heap.size + 1) 2 _ _ _ HD1.out.box]; rfl
    have c3 : w3.cell? ⟨w.heap.size + 1, 3, none⟩ = some (.slice none 0 0) := by rw [cell_of_row w3 (w.heap.size + 1) 3 _ _ _ HD1.out.box]; rfl
    go_wp2_with fail
    rw [HE.out]
    rw [FS.out]
    refine bodyPost_ret (by simp [results, Tryz.results93, go_sem, R0.out, R1.out, R2.out, R3.out]; try rfl) rfl ?_
    exact DefAns.no HD1.out _ rfl rfl
end Go.Proofs.YtnaejlfjlennhaaGreatDoor
