/- Layer 14: the directories in which a library is looked for, case by case. -/
import Derived.Test.YtppeapafnnanbaaDoorDirs
namespace Go.Proofs.YtppeapafnnanbaaDoor
open Go.RowKit
set_option linter.unusedVariables false
set_option linter.unusedSimpArgs false


theorem dst_cell {W0 w : World} {lb ab : Nat} {cs cs' : Array Value} {acc : List ByteArray} (hcs : cs = cs') (h : DSt W0 lb ab cs acc w) (j : Nat) (u : Value) (hj : cs'[j]? = some u) : w.cell? ⟨ab, j, none⟩ = some u := by
  rw [h.ask, hcs]
  exact hj
theorem first_none (a : Option Addr) (c : Nat) (w : World) : Calls Tryd.prog 35 #[.slice a 0 c] w fun e w' => e = .returned (.agg #[.string ⟨#[]⟩, .string ⟨#[]⟩, .string ⟨#[]⟩, .bool false, .bool false]) ∧ Below w.heap.size w w' := by
  go_enter Tryd.func35, Tryd.ntmps35
  go_wp2
  go_returns
  exact ⟨rfl, (Below.refl _ _).alloc (Nat.le_refl _) _⟩
set_option maxRecDepth 100000 in
set_option maxHeartbeats 4000000 in
theorem last_none (a : Option Addr) (c : Nat) (w : World) (hcn : a = none → c = 0) : Calls Tryd.prog 29 #[.slice a 0 c] w fun e w' => e = .returned (.agg #[.string ⟨#[]⟩, .string ⟨#[]⟩, .string ⟨#[]⟩, .bool false, .bool false]) ∧ Below w.heap.size w w' := by
  have HF := Lib.hid (fun (a1 : Option Addr) (c1 : Nat) (w1 : World) => first_none a1 c1 w1)
  have BZ : Hid (Below w.heap.size w (w.alloc (.cells #[.string .empty, .string .empty, .string .empty, .bool false, .bool false] 48))) := Lib.hid ((Below.refl _ _).alloc (Nat.le_refl _) _)
  have HBX : Hid ((w.alloc (.cells #[.string .empty, .string .empty, .string .empty, .bool false, .bool false] 48)).heap[w.heap.size]? = some (.cells #[.string .empty, .string .empty, .string .empty, .bool false, .bool false] 48)) := Lib.hid (heap_alloc_new _ _)
  cases a
  case' none => obtain rfl := hcn rfl
  case' some => by_cases hc0 : c = 0
  all_goals
    clear hcn
    go_enter Tryd.func29, Tryd.ntmps29
    go_wp2_with fail
    refine (HF.out _ _ _).mono ?_
    rintro e w2 ⟨rfl, hb2⟩
    have E2 := Lib.hid ((hb2.block _ (lt_of_block HBX.out)).trans HBX.out)
    have k0 : w2.cell? ⟨w.heap.size, 0, none⟩ = some (.string .empty) := by rw [cell_of_row _ _ _ _ _ _ E2.out]; rfl
    have k1 : w2.cell? ⟨w.heap.size, 1, none⟩ = some (.string .empty) := by rw [cell_of_row _ _ _ _ _ _ E2.out]; rfl
    have k2 : w2.cell? ⟨w.heap.size, 2, none⟩ = some (.string .empty) := by rw [cell_of_row _ _ _ _ _ _ E2.out]; rfl
    have k3 : w2.cell? ⟨w.heap.size, 3, none⟩ = some (.bool false) := by rw [cell_of_row _ _ _ _ _ _ E2.out]; rfl
    have k4 : w2.cell? ⟨w.heap.size, 4, none⟩ = some (.bool false) := by rw [cell_of_row _ _ _ _ _ _ E2.out]; rfl
    have f0 : w2.frozen? ⟨w.heap.size, 0, none⟩ = false := frozen_of_row _ _ _ _ _ E2.out
    have f1 : w2.frozen? ⟨w.heap.size, 1, none⟩ = false := frozen_of_row _ _ _ _ _ E2.out
    have f2 : w2.frozen? ⟨w.heap.size, 2, none⟩ = false := frozen_of_row _ _ _ _ _ E2.out
    have f3 : w2.frozen? ⟨w.heap.size, 3, none⟩ = false := frozen_of_row _ _ _ _ _ E2.out
    have f4 : w2.frozen? ⟨w.heap.size, 4, none⟩ = false := frozen_of_row _ _ _ _ _ E2.out
    have FS := Lib.hid (five_stores E2.out (.string ⟨#[]⟩) (.string ⟨#[]⟩) (.string ⟨#[]⟩) (.bool false) (.bool false))
    have B2 := Lib.hid (bstep BZ.out hb2)
    clear hb2
    go_wp2_with fail
    rw [FS.out]
    have hr := fun j => cell_setRow_same w2 w.heap.size j _ #[.string ⟨#[]⟩, .string ⟨#[]⟩, .string ⟨#[]⟩, .bool false, .bool false] _ _ E2.out
    have r0 := hr 0; have r1 := hr 1; have r2 := hr 2; have r3 := hr 3; have r4 := hr 4
    simp only [List.getElem?_toArray, List.getElem?_cons_zero, List.getElem?_cons_succ] at r0 r1 r2 r3 r4
    refine bodyPost_ret (by simp [results, Tryd.results29, go_sem, r0, r1, r2, r3, r4]; try rfl) rfl ?_
    exact ⟨rfl, below_setRow B2.out (Nat.le_refl _) _⟩

set_option maxRecDepth 100000 in
set_option maxHeartbeats 8000000 in
theorem dirs_ES (name : ByteArray) (env : ByteArray) (ca : Option Addr) (cc : Nat) (w : World) (hok3 : AddOK colonP defaultsF ⟨#[]⟩ []) :
    Calls Tryd.prog 10 #[.agg #[.string name, .slice ca 0 cc, .string env, .bool true]] w fun e w' => (∃ ad c, e = .returned (.slice ad (addF true ⟨#[]⟩ [] (cutF colonP defaultsF.data.toList)).length c) ∧ TRow w' ad (addF true ⟨#[]⟩ [] (cutF colonP defaultsF.data.toList))) ∧ Below w.heap.size w w' := by
  obtain ⟨cs, hcs⟩ : ∃ cs : Array Value, #[.string name, .slice ca 0 cc, .string env, .bool true] = cs := ⟨_, rfl⟩
  have HCS := Lib.hid hcs
  have D0 : Hid (DSt w (w.heap.size + 1) w.heap.size cs [] ((w.alloc (.cells #[.string name, .slice ca 0 cc, .string env, .bool true] 25)).alloc (.cells #[.slice none 0 0] 45))) := Lib.hid (by
    have hb1 : Below w.heap.size w ((w.alloc (.cells #[.string name, .slice ca 0 cc, .string env, .bool true] 25)).alloc (.cells #[.slice none 0 0] 45)) := ((Below.refl _ _).alloc (Nat.le_refl _) _).alloc (by simp) _
    refine ⟨none, 0, ?_, OwnT.nil _ _ _, ?_, hb1⟩
    · have := heap_alloc_new (w.alloc (.cells #[.string name, .slice ca 0 cc, .string env, .bool true] 25)) (.cells #[.slice none 0 0] 45)
      unfold InBox
      simpa using this
    · rw [heap_alloc_old _ _ (by simp), ← hcs]
      exact heap_alloc_new _ _)
  obtain ⟨R, hR⟩ : ∃ R, (addF true ⟨#[]⟩ [] (cutF colonP defaultsF.data.toList)) = R := ⟨_, rfl⟩
  have HR := Lib.hid hR
  rw [hR]
  have HOK3 := Lib.hid hok3
  have HADD := Lib.hid (fun (acc : List ByteArray) (list origin : ByteArray) (w1 : World) (hd : DSt w (w.heap.size + 1) w.heap.size cs acc w1) (ok : AddOK colonP list origin acc) => add_any 28 colonP enters_colon colon_any colonP_high w (w.heap.size + 1) w.heap.size cs acc true list origin w1 hd (by omega) (by omega) (by rw [← hcs]; rfl) ok.ls ok.os ok.each ok.many)
  have HADB := Lib.hid (fun (acc : List ByteArray) (list origin : ByteArray) (w1 : World) (hd : DSt w (w.heap.size + 1) w.heap.size cs acc w1) (ok : AddOK bothP list origin acc) => add_any 30 bothP enters_both both_any bothP_high w (w.heap.size + 1) w.heap.size cs acc true list origin w1 hd (by omega) (by omega) (by rw [← hcs]; rfl) ok.ls ok.os ok.each ok.many)
  clear hR hcs hok3
  go_enter Tryd.func10, Tryd.ntmps10
  go_wp2_with fail
  refine (HADD.out [] defaultsF ⟨#[]⟩ _ D0.out HOK3.out).mono ?_
  rintro e w11 ⟨rfl, hd11⟩
  rw [HR.out] at hd11
  obtain ⟨ad, c, hx, ho, -, hB⟩ := hd11
  have hc11 := hx.cell
  have TR := Lib.hid ho.row.1
  have B11 := Lib.hid hB
  clear hx ho hB
  go_wp2_with fail
  go_ret
  exact ⟨⟨ad, c, rfl, TR.out⟩, B11.out⟩
set_option maxRecDepth 100000 in
set_option maxHeartbeats 8000000 in
theorem dirs_EO (name : ByteArray) (ca : Option Addr) (cc : Nat) (w : World) (hok3 : AddOK colonP defaultsF ⟨#[]⟩ []) :
    Calls Tryd.prog 10 #[.agg #[.string name, .slice ca 0 cc, .string ⟨#[]⟩, .bool false]] w fun e w' => (∃ ad c, e = .returned (.slice ad (addF false ⟨#[]⟩ [] (cutF colonP defaultsF.data.toList)).length c) ∧ TRow w' ad (addF false ⟨#[]⟩ [] (cutF colonP defaultsF.data.toList))) ∧ Below w.heap.size w w' := by
  obtain ⟨cs, hcs⟩ : ∃ cs : Array Value, #[.string name, .slice ca 0 cc, .string ⟨#[]⟩, .bool false] = cs := ⟨_, rfl⟩
  have HCS := Lib.hid hcs
  have D0 : Hid (DSt w (w.heap.size + 1) w.heap.size cs [] ((w.alloc (.cells #[.string name, .slice ca 0 cc, .string ⟨#[]⟩, .bool false] 25)).alloc (.cells #[.slice none 0 0] 45))) := Lib.hid (by
    have hb1 : Below w.heap.size w ((w.alloc (.cells #[.string name, .slice ca 0 cc, .string ⟨#[]⟩, .bool false] 25)).alloc (.cells #[.slice none 0 0] 45)) := ((Below.refl _ _).alloc (Nat.le_refl _) _).alloc (by simp) _
    refine ⟨none, 0, ?_, OwnT.nil _ _ _, ?_, hb1⟩
    · have := heap_alloc_new (w.alloc (.cells #[.string name, .slice ca 0 cc, .string ⟨#[]⟩, .bool false] 25)) (.cells #[.slice none 0 0] 45)
      unfold InBox
      simpa using this
    · rw [heap_alloc_old _ _ (by simp), ← hcs]
      exact heap_alloc_new _ _)
  obtain ⟨R, hR⟩ : ∃ R, (addF false ⟨#[]⟩ [] (cutF colonP defaultsF.data.toList)) = R := ⟨_, rfl⟩
  have HR := Lib.hid hR
  rw [hR]
  have HOK3 := Lib.hid hok3
  have HADD := Lib.hid (fun (acc : List ByteArray) (list origin : ByteArray) (w1 : World) (hd : DSt w (w.heap.size + 1) w.heap.size cs acc w1) (ok : AddOK colonP list origin acc) => add_any 28 colonP enters_colon colon_any colonP_high w (w.heap.size + 1) w.heap.size cs acc false list origin w1 hd (by omega) (by omega) (by rw [← hcs]; rfl) ok.ls ok.os ok.each ok.many)
  have HADB := Lib.hid (fun (acc : List ByteArray) (list origin : ByteArray) (w1 : World) (hd : DSt w (w.heap.size + 1) w.heap.size cs acc w1) (ok : AddOK bothP list origin acc) => add_any 30 bothP enters_both both_any bothP_high w (w.heap.size + 1) w.heap.size cs acc false list origin w1 hd (by omega) (by omega) (by rw [← hcs]; rfl) ok.ls ok.os ok.each ok.many)
  clear hR hcs hok3
  go_enter Tryd.func10, Tryd.ntmps10
  go_wp2_with fail
  refine (HADD.out [] defaultsF ⟨#[]⟩ _ D0.out HOK3.out).mono ?_
  rintro e w11 ⟨rfl, hd11⟩
  rw [HR.out] at hd11
  obtain ⟨ad, c, hx, ho, -, hB⟩ := hd11
  have hc11 := hx.cell
  have TR := Lib.hid ho.row.1
  have B11 := Lib.hid hB
  clear hx ho hB
  go_wp2_with fail
  go_ret
  exact ⟨⟨ad, c, rfl, TR.out⟩, B11.out⟩
set_option maxRecDepth 100000 in
set_option maxHeartbeats 8000000 in
theorem dirs_EA (name : ByteArray) (ec : UInt8) (et : List UInt8) (ca : Option Addr) (cc : Nat) (w : World) (hcn : ca = none → cc = 0) (hok1 : AddOK bothP ⟨(ec :: et).toArray⟩ ⟨#[]⟩ []) (hok3 : AddOK colonP defaultsF ⟨#[]⟩ (addF false ⟨#[]⟩ [] (cutF bothP (⟨(ec :: et).toArray⟩ : ByteArray).data.toList))) :
    Calls Tryd.prog 10 #[.agg #[.string name, .slice ca 0 cc, .string ⟨(ec :: et).toArray⟩, .bool false]] w fun e w' => (∃ ad c, e = .returned (.slice ad (addF false ⟨#[]⟩ (addF false ⟨#[]⟩ [] (cutF bothP (⟨(ec :: et).toArray⟩ : ByteArray).data.toList)) (cutF colonP defaultsF.data.toList)).length c) ∧ TRow w' ad (addF false ⟨#[]⟩ (addF false ⟨#[]⟩ [] (cutF bothP (⟨(ec :: et).toArray⟩ : ByteArray).data.toList)) (cutF colonP defaultsF.data.toList))) ∧ Below w.heap.size w w' := by
  obtain ⟨cs, hcs⟩ : ∃ cs : Array Value, #[.string name, .slice ca 0 cc, .string ⟨(ec :: et).toArray⟩, .bool false] = cs := ⟨_, rfl⟩
  have HCS := Lib.hid hcs
  have D0 : Hid (DSt w (w.heap.size + 1) w.heap.size cs [] ((w.alloc (.cells #[.string name, .slice ca 0 cc, .string ⟨(ec :: et).toArray⟩, .bool false] 25)).alloc (.cells #[.slice none 0 0] 45))) := Lib.hid (by
    have hb1 : Below w.heap.size w ((w.alloc (.cells #[.string name, .slice ca 0 cc, .string ⟨(ec :: et).toArray⟩, .bool false] 25)).alloc (.cells #[.slice none 0 0] 45)) := ((Below.refl _ _).alloc (Nat.le_refl _) _).alloc (by simp) _
    refine ⟨none, 0, ?_, OwnT.nil _ _ _, ?_, hb1⟩
    · have := heap_alloc_new (w.alloc (.cells #[.string name, .slice ca 0 cc, .string ⟨(ec :: et).toArray⟩, .bool false] 25)) (.cells #[.slice none 0 0] 45)
      unfold InBox
      simpa using this
    · rw [heap_alloc_old _ _ (by simp), ← hcs]
      exact heap_alloc_new _ _)
  obtain ⟨R, hR⟩ : ∃ R, (addF false ⟨#[]⟩ (addF false ⟨#[]⟩ [] (cutF bothP (⟨(ec :: et).toArray⟩ : ByteArray).data.toList)) (cutF colonP defaultsF.data.toList)) = R := ⟨_, rfl⟩
  have HR := Lib.hid hR
  rw [hR]
  have HOK1 := Lib.hid hok1
  have HOK3 := Lib.hid hok3
  have HADD := Lib.hid (fun (acc : List ByteArray) (list origin : ByteArray) (w1 : World) (hd : DSt w (w.heap.size + 1) w.heap.size cs acc w1) (ok : AddOK colonP list origin acc) => add_any 28 colonP enters_colon colon_any colonP_high w (w.heap.size + 1) w.heap.size cs acc false list origin w1 hd (by omega) (by omega) (by rw [← hcs]; rfl) ok.ls ok.os ok.each ok.many)
  have HADB := Lib.hid (fun (acc : List ByteArray) (list origin : ByteArray) (w1 : World) (hd : DSt w (w.heap.size + 1) w.heap.size cs acc w1) (ok : AddOK bothP list origin acc) => add_any 30 bothP enters_both both_any bothP_high w (w.heap.size + 1) w.heap.size cs acc false list origin w1 hd (by omega) (by omega) (by rw [← hcs]; rfl) ok.ls ok.os ok.each ok.many)
  clear hR hcs hok3 hok1
  go_enter Tryd.func10, Tryd.ntmps10
  go_wp2_with fail
  generalize (w.alloc (.cells #[.string name, .slice ca 0 cc, .string ⟨(ec :: et).toArray⟩, .bool false] 25)).alloc (.cells #[.slice none 0 0] 45) = wr at *
  have k1 := dst_cell HCS.out.symm D0.out 1 (.slice ca 0 cc) rfl
  have k2 := dst_cell HCS.out.symm D0.out 2 (.string ⟨(ec :: et).toArray⟩) rfl
  have k3 := dst_cell HCS.out.symm D0.out 3 (.bool false) rfl
  have HLAST : Hid (∀ w' : World, Below wr.heap.size wr w' → Calls Tryd.prog 29 #[.slice ca 0 cc] w' fun e w'' => e = .returned (.agg #[.string ⟨#[]⟩, .string ⟨#[]⟩, .string ⟨#[]⟩, .bool false, .bool false]) ∧ Below w'.heap.size w' w'') := Lib.hid (fun w' _ => last_none ca cc w' hcn)
  have hfp := fun (w1 : World) => field_path w1 (.string ⟨#[]⟩) (.string ⟨#[]⟩) (.string ⟨#[]⟩) (.bool false) (.bool false)
  go_region_law
    (first
      | (go_simp; go_at_call 29; refine (HLAST.out _ (Below.refl _ _).drew).mono ?_; rintro e w9 ⟨rfl, hb9⟩; have D9 := Lib.hid (D0.out.below (bstep (Below.refl _ _).drew hb9)); have k9 : w9.cell? ⟨w.heap.size, 2, none⟩ = some (.string ⟨(ec :: et).toArray⟩) := dst_cell HCS.out.symm D9.out 2 _ rfl; have k91 := dst_cell HCS.out.symm D9.out 1 (.slice ca 0 cc) rfl)
      | (go_simp; go_at_call 25; refine (HADB.out _ _ _ _ D9.out HOK1.out).mono ?_; rintro e w10 ⟨rfl, hd10⟩; have D10 := Lib.hid hd10))
  all_goals
    clear k1 k2 k3 k9 k91
    have k1 := dst_cell HCS.out.symm D10.out 1 (.slice ca 0 cc) rfl
    have k3 := dst_cell HCS.out.symm D10.out 3 (.bool false) rfl
    go_wp2_with fail
    refine (HADD.out _ defaultsF ⟨#[]⟩ _ D10.out HOK3.out).mono ?_
    rintro e w11 ⟨rfl, hd11⟩
    rw [HR.out] at hd11
    obtain ⟨ad, c, hx, ho, -, hB⟩ := hd11
    have hc11 := hx.cell
    have TR := Lib.hid ho.row.1
    have B11 := Lib.hid hB
    clear hx ho hB
    go_wp2_with fail
    go_ret
    exact ⟨⟨ad, c, rfl, TR.out⟩, B11.out⟩
end Go.Proofs.YtppeapafnnanbaaDoor
